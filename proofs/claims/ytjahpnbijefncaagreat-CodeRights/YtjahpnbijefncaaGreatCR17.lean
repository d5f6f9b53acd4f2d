import Derived.Test.YtjahpnbijefncaaGreatCR16
import Derived.Test.YtjahpnbijefncaaGreatCR04
import Derived.Test.YtjahpnbijefncaaGreatCR15
import Derived.Test.YtjahpnbijefncaaGreatCR06
import Derived.Test.YtjahpnbijefncaaGreatCR10
import Derived.Test.YtjahpnbijefncaaGreatCR09
import Derived.Laws.StructEq
namespace Go.Proofs.YtjahpnbijefncaaGreat
set_option linter.unusedVariables false
def fitK (L:List Sym):List Int→Nat→List Int→Bool
 | [],k,_=>decide (k=0)
 | n :: r,k,ts=>if k=0 then true else if 0≤n then (match ts with | []=>false | x :: ts' => decide (x=n) && fitK L r (k-1+arN L n) ts') else fitK L r (k-1) (ts.drop ((scan L 1 ts).getD 0))
theorem fitK_sym {L:List Sym} {n x:Int} {r ts:List Int} {k:Nat} (hn:0≤n):fitK L (n :: r) (k+1) (x :: ts)=(decide (x=n) && fitK L r (k+arN L n) ts):=by
 rw [fitK,if_neg (by omega),if_pos hn,Nat.add_sub_cancel]
theorem fitK_var {L:List Sym} {n:Int} {r ts:List Int} {k m:Nat} (hn:¬ 0≤n) (h:scan L 1 ts=some m):fitK L (n :: r) (k+1) ts=fitK L r k (ts.drop m):=by
 show (if k+1=0 then true else if 0≤n then _ else fitK L r (k+1-1) (ts.drop ((scan L 1 ts).getD 0)))=_
 rw [if_neg (by omega),if_neg hn,h,Nat.add_sub_cancel,Option.getD_some]
def fitA (L:List Sym) (p:List Int) (i:Nat) (t:List Int) (j:Nat):Bool:=fitK L (p.drop i) 1 (t.drop j)
def fitP8 (L:List Sym) (p:List Int) (t:List Int):List Nat→List Nat→Bool
 | i :: ps,j :: qs=>fitA L p i t j && fitP8 L p t ps qs
 | _,_=>true
def Led8 (L:List Sym) (U:List Int):List (List Int)→List Nat→Prop
 | [],[]=>True
 | p :: ps,q :: qs=>leads L U 0 p=some q∧Led8 L U ps qs
 | _,_=>False
structure FitN (L:List Sym) (U:List Int) (paths:List (List Int)) (rows:List Rw) (qs:List Nat):Prop where
 led:Led8 L U paths qs
 lt:∀ q∈qs,q<U.length
 row:∀ x∈rows,IsT L x.2.1∧x.2.2.length=paths.length∧∀ i∈x.2.2,i<x.2.1.length
 low:∀ x∈rows,∀ k (h:k<x.2.1.length),0<k→defB L x.2.1[k]=false
 inj:∀ x∈rows,∀ y∈rows,x.1=y.1→x=y
def fitX (L:List Sym) (U:List Int) (x:Rw) (qs:List Nat):Bool:=fitP8 L x.2.1 U x.2.2 qs
section
variable {L : List Sym} {U : List Int} {paths : List (List Int)} {rows : List Rw} {qs : List Nat}
end
structure Found8 (L:List Sym) (U:List Int) (a:Int) (rows:List Rw) (qs:List Nat) (R:Fd):Prop where
 err:R.2.2.2.2=0
 kind:R.1=1∨R.1=2∨R.1=3
 fits:∀ x∈rows,fitX L U x qs=true ↔ (R.1=1∧R.2.1=x.1)
 one:R.1=1→∃ y∈rows,y.1=R.2.1
 dem:R.1=3→∃ q:Nat,∃ h:q<U.length,R.2.2.2.1=a+q∧0<q∧defB L U[q]=true
end Go.Proofs.YtjahpnbijefncaaGreat
namespace Go.Proofs.YtjahpnbijefncaaGreat
set_option maxRecDepth 100000
set_option linter.unusedVariables false
open Go.RowKit
attribute [local go_sem ↓] Go.wp_at_zero Go.wp_at_succ
abbrev zeroC:Value:=.agg #[.int .i64 0,.int .i64 0,.slice none 0 0,.slice none 0 0]
def treeF (L:List Sym) (R:List Ru) (s:Nat):Except Int (Tr 2001):=growF L 2001 (rootP L s) (rootR L R s)
def BldPost (L:List Sym) (R:List Ru) (n:Int) (w:World) (e:Ending) (w' : World):Prop:=
 Same0 w w' ∧ if defB L n=true then
  (match treeF L R n.toNat with
  | .ok t=>∃ v,e=.returned (.tuple #[v,.nilIface])∧CsB (fun b=>w.heap.size≤b) w' 2001 v t
  | .error z=>∃ v,e=.returned (.tuple #[zeroC,v])∧FltAt w' [(81,n),(82,z)] v)
 else ∃ v,e=.returned (.tuple #[zeroC,v])∧FltAt w' [(80,0)] v
theorem ptr_nil (b:Nat) (w:World):(binOp .eql 26 (.pointer (some ⟨b,0,none⟩)) (.pointer none)).run Tryz.prog w=.ok (.bool false) w:=by kernel_rfl
theorem kidsN_err {α:Type} {has:Nat→Bool} {g:Nat→Except Int α} {z:Int}:∀ {k:Nat},kidsN has g k=.error z→∃ j,g j=.error z
 | 0,h=>by cases h
 | k+1,h=>by
  rw [kidsN] at h
  cases hk:kidsN has g k with
  | error e=>rw [hk] at h;cases h;exact kidsN_err hk
  | ok l=>
   rw [hk] at h
   simp only at h
   split at h
   ·cases hg:g k with
    | error e=>rw [hg] at h;cases h;exact ⟨k,hg⟩
    | ok t=>rw [hg] at h;cases h
   ·cases h
theorem growF_err {L:List Sym} {z:Int}:∀ {n:Nat} {P:List (List Int)} {R:List Rw},(∀ x∈R,0≤x.1)→growF L n P R=.error z→0≤z
 | 0,P,R,hR,h=>by rw [growF] at h;cases h;omega
 | n+1,P,R,hR,h=>by
  have hh:¬ R.length=0→0≤(R.headD (0,[],[])).1:=fun h0=>by
   cases R with
   | nil=>simp at h0
   | cons x r=>exact hR x (List.mem_cons_self ..)
  by_cases h0:R.length=0
  ·rw [growF_zero h0] at h;cases h
  ·cases hp:partN R P.length with
   | some c=>
    rw [growF_branch h0 hp] at h
    unfold BrF at h
    cases hk:KidsF L n P R c L.length with
    | ok l=>rw [hk] at h;cases h
    | error e=>
     rw [hk] at h
     cases h
     obtain ⟨j,hj⟩:=kidsN_err hk
     refine growF_err (fun x hx=>?_) hj
     obtain ⟨y,hy,rfl⟩:=List.mem_map.1 hx
     exact hR y (havR_mem hy).1
   | none=>
    by_cases h1:R.length=1
    ·rw [growF_leaf h1 hp] at h;cases h
    ·rw [growF_fork h0 h1 hp] at h;cases h;exact hh h0
set_option maxHeartbeats 16000000 in
theorem build_any {w:World} {b bs:Nat} {L:List Sym} {R:List Ru} {lv:Value} {vs:List Value} (h:StAt w b bs L R lv vs) (n:Int) :
  Calls Tryz.prog 8 #[.pointer (some ⟨b,0,none⟩),.int .i64 n] w (BldPost L R n w):=by
 have hpn:=ptr_nil
 have hle:=h.le
 have hok:=h.ok
 obtain ⟨W1,hW1⟩:∃ W1,W1=((w.alloc (.cells #[.int .i64 n] 3)).alloc zeroCs).alloc (.cells #[.nilIface] 37):=⟨_,rfl⟩
 have KW:Same0 w W1:=by rw [hW1];exact (((Kept.refl _ w).alloc _).alloc _).alloc _
 have ez:W1.heap.size=w.heap.size+1+1+1:=by rw [hW1];simp
 have BK:Hid (∀ ww,Same0 W1 ww→ww.heap[w.heap.size]? = some (.cells #[.int .i64 n] 3 (0,0))∧ww.heap[w.heap.size+1]? = some (.cells #[.int .i64 0,.int .i64 0,.slice none 0 0,.slice none 0 0] 35 (0,0))∧ww.heap[w.heap.size+1+1]? = some (.cells #[.nilIface] 37 (0,0))):=fun ww hk=>by
  have k1:Same0 (w.alloc (.cells #[.int .i64 n] 3)) W1:=by rw [hW1];exact ((Kept.refl _ _).alloc _).alloc _
  have k2:Same0 ((w.alloc (.cells #[.int .i64 n] 3)).alloc zeroCs) W1:=by rw [hW1];exact (Kept.refl _ _).alloc _
  have h3:=heap_al_al (w.alloc (.cells #[.int .i64 n] 3)) zeroCs (.cells #[.nilIface] 37)
  rw [World.size_alloc] at h3
  exact ⟨hk.at0 (k1.at0 (heap_alloc_new w _)),hk.at0 (k2.at0 (heap_al_al _ _ _)),hk.at0 (by rw [hW1];exact h3)⟩
 have RC:Hid (∀ ww,Same0 W1 ww→ww.cell? ⟨w.heap.size,0,none⟩=some (.int .i64 n)∧(ww.cell? ⟨w.heap.size+1,0,none⟩=some (.int .i64 0)∧ww.cell? ⟨w.heap.size+1,1,none⟩=some (.int .i64 0)∧ww.cell? ⟨w.heap.size+1,2,none⟩=some (.slice none 0 0)∧ww.cell? ⟨w.heap.size+1,3,none⟩=some (.slice none 0 0))∧(ww.frozen? ⟨w.heap.size+1,0,none⟩=false∧ww.frozen? ⟨w.heap.size+1,1,none⟩=false∧ww.frozen? ⟨w.heap.size+1,2,none⟩=false∧ww.frozen? ⟨w.heap.size+1,3,none⟩=false)∧ww.cell? ⟨w.heap.size+1+1,0,none⟩=some .nilIface∧ww.frozen? ⟨w.heap.size+1+1,0,none⟩=false):=fun ww hk=>by
  obtain ⟨h1,h2,h3⟩:=BK.out ww hk
  exact ⟨cellAt h1 0,⟨cellAt h2 0,cellAt h2 1,cellAt h2 2,cellAt h2 3⟩,⟨frozenAt h2 0,frozenAt h2 1,frozenAt h2 2,frozenAt h2 3⟩,cellAt h3 0,frozenAt h3 0⟩
 have CS:Hid (∀ ww,Same0 w ww→Calls Tryz.prog 35 #[.pointer (some ⟨b,0,none⟩)] ww fun e w' => ∃ bt,e=.returned (.pointer (some ⟨bt,0,none⟩))∧Hid (Sg w'.heap.size w' bt L)∧Same0 ww w'):=fun ww hk=>by
  refine (ssig_any (h.same hk)).mono ?_
  rintro e w' ⟨bt,rfl,hb,sv,mr,h1,h2,h3⟩
  exact ⟨bt,rfl,⟨⟨sv,mr,h1,fun k hk=>sig_foot_lt h1 k hk⟩,h.sig.2⟩,h3⟩
 have HST:Hid (∀ ww,Same0 w ww→StAt ww b bs L R lv vs):=fun ww hk=>h.same hk
 have PUT:Hid (∀ ww x0 x1 x2 x3 y,Same0 W1 ww→((((((ww.setCell ⟨w.heap.size+1,0,none⟩ x0).setCell ⟨w.heap.size+1,1,none⟩ x1).setCell ⟨w.heap.size+1,2,none⟩ x2).setCell ⟨w.heap.size+1,3,none⟩ x3).setCell ⟨w.heap.size+1+1,0,none⟩ y)).cell? ⟨w.heap.size+1,0,none⟩=some x0∧((((((ww.setCell ⟨w.heap.size+1,0,none⟩ x0).setCell ⟨w.heap.size+1,1,none⟩ x1).setCell ⟨w.heap.size+1,2,none⟩ x2).setCell ⟨w.heap.size+1,3,none⟩ x3).setCell ⟨w.heap.size+1+1,0,none⟩ y)).cell? ⟨w.heap.size+1,1,none⟩=some x1∧((((((ww.setCell ⟨w.heap.size+1,0,none⟩ x0).setCell ⟨w.heap.size+1,1,none⟩ x1).setCell ⟨w.heap.size+1,2,none⟩ x2).setCell ⟨w.heap.size+1,3,none⟩ x3).setCell ⟨w.heap.size+1+1,0,none⟩ y)).cell? ⟨w.heap.size+1,2,none⟩=some x2∧((((((ww.setCell ⟨w.heap.size+1,0,none⟩ x0).setCell ⟨w.heap.size+1,1,none⟩ x1).setCell ⟨w.heap.size+1,2,none⟩ x2).setCell ⟨w.heap.size+1,3,none⟩ x3).setCell ⟨w.heap.size+1+1,0,none⟩ y)).cell? ⟨w.heap.size+1,3,none⟩=some x3∧((((((ww.setCell ⟨w.heap.size+1,0,none⟩ x0).setCell ⟨w.heap.size+1,1,none⟩ x1).setCell ⟨w.heap.size+1,2,none⟩ x2).setCell ⟨w.heap.size+1,3,none⟩ x3).setCell ⟨w.heap.size+1+1,0,none⟩ y)).cell? ⟨w.heap.size+1+1,0,none⟩=some y∧Kept (fun q=>q=w.heap.size+1∨q=w.heap.size+1+1) ww ((((((ww.setCell ⟨w.heap.size+1,0,none⟩ x0).setCell ⟨w.heap.size+1,1,none⟩ x1).setCell ⟨w.heap.size+1,2,none⟩ x2).setCell ⟨w.heap.size+1,3,none⟩ x3).setCell ⟨w.heap.size+1+1,0,none⟩ y))∧Same0 w ((((((ww.setCell ⟨w.heap.size+1,0,none⟩ x0).setCell ⟨w.heap.size+1,1,none⟩ x1).setCell ⟨w.heap.size+1,2,none⟩ x2).setCell ⟨w.heap.size+1,3,none⟩ x3).setCell ⟨w.heap.size+1+1,0,none⟩ y))):=by
  intro ww x0 x1 x2 x3 y hk
  obtain ⟨h1,h2,h3⟩:=BK.out ww hk
  have s3:=setAt (setAt (setAt (setAt h2 0 x0) 1 x1) 2 x2) 3 x3
  have k1:=Kept.setCell (p:=⟨w.heap.size+1,0,none⟩) (Kept.refl (fun q=>q=w.heap.size+1) ww) (fun _=>rfl) x0
  have k2:=Kept.setCell (p:=⟨w.heap.size+1,1,none⟩) k1 (fun _=>rfl) x1
  have k3:=Kept.setCell (p:=⟨w.heap.size+1,2,none⟩) k2 (fun _=>rfl) x2
  have k4:=Kept.setCell (p:=⟨w.heap.size+1,3,none⟩) k3 (fun _=>rfl) x3
  have h3' := k4.at h3 (fun e=>by omega)
  have s4:=setAt h3' 0 y
  have k5:=Kept.setCell (p:=⟨w.heap.size+1+1,0,none⟩) (Kept.refl (fun q=>q=w.heap.size+1+1) ((((ww.setCell ⟨w.heap.size+1,0,none⟩ x0).setCell ⟨w.heap.size+1,1,none⟩ x1).setCell ⟨w.heap.size+1,2,none⟩ x2).setCell ⟨w.heap.size+1,3,none⟩ x3)) (fun _=>rfl) y
  have s3' := k5.at s3 (fun e=>by omega)
  have kk:Kept (fun q=>q=w.heap.size+1∨q=w.heap.size+1+1) ww ((((((ww.setCell ⟨w.heap.size+1,0,none⟩ x0).setCell ⟨w.heap.size+1,1,none⟩ x1).setCell ⟨w.heap.size+1,2,none⟩ x2).setCell ⟨w.heap.size+1,3,none⟩ x3).setCell ⟨w.heap.size+1+1,0,none⟩ y)):=Kept.trans (k4.mono (fun _ _ e=>.inl e)) k5 (fun _ _ e=>.inr e)
  exact ⟨cellAt s3' 0,cellAt s3' 1,cellAt s3' 2,cellAt s3' 3,cellAt s4 0,kk,Kept.trans (KW.trans' hk) kk (fun i hi e=>by omega)⟩
 clear h
 have C1:=CS.out W1 KW
 cases hd:defB L n with
 | false=>
  have FIN:Hid (∀ ww v,Same0 w ww→FltAt ww [(80,0)] v→BldPost L R n w (.returned (.tuple #[zeroC,v])) ww):=fun ww v hk hf=>⟨hk,by rw [hd];exact ⟨v,rfl,hf⟩⟩
  have CD:Hid (∀ ww bt,Same0 W1 ww→Sg ww.heap.size ww bt L→Calls Tryz.prog 36 #[.pointer (some ⟨bt,0,none⟩),.int .i64 n] ww fun e w' => e=.returned (.bool false)∧Same0 ww w'):=fun ww bt hk hs=>by rw [← hd];exact tdef_any hs n
  clear hd
  go_enter Tryz.func8,Tryz.ntmps8
  go_upto_region 1 with fail
  rw [← hW1]
  clear hW1
  go_upto_region 4 with (first | (go_at_call 35;refine C1.mono ?_;rintro e w2 ⟨bt,rfl,hs2,k2⟩))
  obtain ⟨r0,_⟩:=RC.out w2 k2
  have C2:=CD.out w2 bt k2 hs2.out
  go_upto_region 5 with (first | (go_at_call 36;refine C2.mono ?_;rintro e w3 ⟨rfl,k3⟩))
  have k13:=k2.trans' k3
  have ka:Same0 W1 (w3.alloc (.cells #[.int .i64 80,.int .i64 0,.nilIface] 100)):=Kept.alloc k13 _
  obtain ⟨_,⟨q0,q1,q2,q3⟩,⟨f0,f1,f2,f3⟩,q4,f4⟩:=RC.out _ ka
  have PP:=PUT.out _ (.int .i64 0) (.int .i64 0) (.slice none 0 0) (.slice none 0 0) (.iface 98 (.pointer (some ⟨w3.heap.size,0,none⟩))) ka
  have PH:Hid _:=PP
  clear PP
  go_wp2_with fail
  obtain ⟨g0,g1,g2,g3,g4,kk,ks⟩:=PH.out
  have hf:=kk.at (heap_alloc_new w3 _) (fun e=>by have:=k13.size;omega)
  exact bodyPost_ret (v:=.tuple #[zeroC,.iface 98 (.pointer (some ⟨w3.heap.size,0,none⟩))]) (by simp [results,Tryz.results8,go_sem,g0,g1,g2,g3,g4]) rfl (FIN.out _ _ ks (.inr ⟨by omega,_,_,rfl,hf,rfl⟩))
 | true=>
  obtain ⟨s,hs,rfl⟩:∃ s:Nat,s<L.length∧n=(s:Int):=by
   by_cases hx:n<0∨(L.length:Int)≤n
   ·rw [defB_no hx] at hd;cases hd
   ·exact ⟨n.toNat,by omega,by omega⟩
  have CD:Hid (∀ ww bt,Same0 W1 ww→Sg ww.heap.size ww bt L→Calls Tryz.prog 36 #[.pointer (some ⟨bt,0,none⟩),.int .i64 (s:Int)] ww fun e w' => e=.returned (.bool true)∧Same0 ww w'):=fun ww bt hk hs=>by rw [← hd];exact tdef_any hs _
  have CR:Hid (∀ ww bt,Same0 W1 ww→Sg ww.heap.size ww bt L→Calls Tryz.prog 39 #[.pointer (some ⟨bt,0,none⟩),.pointer (some ⟨b,0,none⟩),.int .i64 (s:Int)] ww fun e w' => ∃ po pc ro rc,e=.returned (.agg #[.pointer (some ⟨bt,0,none⟩),.slice po (rootP L s).length pc,.slice ro (rootR L R s).length rc])∧Hid (NdIn w' L 2001 bt po pc (rootP L s) ro (rootR L R s))∧Same0 ww w'):=fun ww bt hk hg=>rootOf_any hg (HST.out ww (KW.trans' hk)) hs
  have CG:Hid (∀ ww bt po pc ro rc,NdIn ww L 2001 bt po pc (rootP L s) ro (rootR L R s)→Calls Tryz.prog 40 #[.agg #[.pointer (some ⟨bt,0,none⟩),.slice po (rootP L s).length pc,.slice ro (rootR L R s).length rc]] ww (TreeOut ww (treeF L R s))):=fun ww bt po pc ro rc hi=>tgrow_any L 2001 ww bt po pc _ ro rc _ hi
  cases ht:treeF L R s with
  | ok t=>
   rw [ht] at CG
   have CG2:Hid (∀ ww bt po pc ro rc,NdIn ww L 2001 bt po pc (rootP L s) ro (rootR L R s)→Calls Tryz.prog 40 #[.agg #[.pointer (some ⟨bt,0,none⟩),.slice po (rootP L s).length pc,.slice ro (rootR L R s).length rc]] ww fun e w' => ∃ tk tr tpo tpl tpc tko tkl tkc,e=.returned (.agg #[.int .i64 tk,.int .i64 tr,.slice tpo tpl tpc,.slice tko tkl tkc])∧Hid (CsB (fun b=>ww.heap.size≤b) w' 2001 (.agg #[.int .i64 tk,.int .i64 tr,.slice tpo tpl tpc,.slice tko tkl tkc]) t)∧Same0 ww w'):=fun ww bt po pc ro rc hi=>by
    refine (CG.out ww bt po pc ro rc hi).mono ?_
    rintro e w' ⟨v,rfl,h1,h2⟩
    obtain ⟨tk,tr,tpo,tpl,tpc,tko,tkl,tkc,rfl⟩:=h1.shape
    exact ⟨tk,tr,tpo,tpl,tpc,tko,tkl,tkc,rfl,h1,h2⟩
   have FIN:Hid (∀ ww v,Same0 w ww→CsB (fun b=>w.heap.size≤b) ww 2001 v t→BldPost L R (s:Int) w (.returned (.tuple #[v,.nilIface])) ww):=fun ww v hk hf=>⟨hk,by rw [if_pos hd];simp only [Int.toNat_natCast];rw [ht];exact ⟨v,rfl,hf⟩⟩
   clear hd CG ht
   go_enter_defers Tryz.func8,Tryz.ntmps8
   go_upto_region 1 with fail
   rw [← hW1]
   clear hW1
   go_upto_region 4 with (first | (go_at_call 35;refine C1.mono ?_;rintro e w2 ⟨bt,rfl,hs2,k2⟩))
   obtain ⟨r0,_⟩:=RC.out w2 k2
   have C2:=CD.out w2 bt k2 hs2.out
   go_upto_region 7 with (first | (go_at_call 36;refine C2.mono ?_;rintro e w3 ⟨rfl,k3⟩))
   have k13:=k2.trans' k3
   obtain ⟨r3,_⟩:=RC.out w3 k13
   have C3:=CR.out w3 bt k13 (sg_up (hs2.out.same k3) k3.size)
   go_wp2_with (first
    | (go_at_call 39;refine C3.mono ?_;rintro e w4 ⟨po,pc,ro,rc,rfl,hi,k4⟩;have C4:=CG2.out w4 bt po pc ro rc hi.out)
    | (go_at_call 40;refine C4.mono ?_;rintro e w5 ⟨tk,tr,tpo,tpl,tpc,tko,tkl,tkc,rfl,hcs,k5⟩;have k15:=(k13.trans' k4).trans' k5;obtain ⟨_,⟨q0,q1,q2,q3⟩,⟨f0,f1,f2,f3⟩,q4,f4⟩:=RC.out _ k15))
   have PH:Hid _:=PUT.out w5 (.int .i64 tk) (.int .i64 tr) (.slice tpo tpl tpc) (.slice tko tkl tkc) .nilIface k15
   refine leaves_cons (f:=37) (args:=#[.pointer (some ⟨w.heap.size,0,none⟩),.pointer (some ⟨w.heap.size+1+1,0,none⟩)]) (by simp) (by simp [go_sem]) ?_
   refine (catch_none _).mono ?_
   rintro e u' w'' ⟨rfl,rfl,rfl⟩
   obtain ⟨g0,g1,g2,g3,g4,kk,ks⟩:=PH.out
   have z4:=(k13.trans' k4).size
   simp [Leaves,settle,results,Tryz.results8,go_sem,g0,g1,g2,g3,g4]
   exact FIN.out _ _ ks (CsB.mono (fun b hb q=>by have:w4.heap.size≤b:=q;omega) (CsB.kept kk (fun b q e=>by have:w4.heap.size≤b:=q;omega) hcs.out))
  | error z=>
   rw [ht] at CG
   have hz:0≤z:=by
    refine growF_err (fun x hx=>?_) ht
    obtain ⟨y,hy,rfl⟩:=List.mem_map.1 hx
    obtain ⟨j,hj,rfl,_⟩:=rows_fact hok hy
    show (0:Int)≤(j:Int)
    omega
   have CG2:Hid (∀ ww bt po pc ro rc,NdIn ww L 2001 bt po pc (rootP L s) ro (rootR L R s)→Calls Tryz.prog 40 #[.agg #[.pointer (some ⟨bt,0,none⟩),.slice po (rootP L s).length pc,.slice ro (rootR L R s).length rc]] ww fun e w' => ∃ k,e=.panicked [{ v:=.iface 98 (.pointer (some ⟨k,0,none⟩)),recovered:=false }]∧Hid (w'.heap[k]? = some (.cells #[.int .i64 82,.int .i64 z,.nilIface] 100 (0,0)))∧Same0 ww w'):=fun ww bt po pc ro rc hi=>by
    refine (CG.out ww bt po pc ro rc hi).mono ?_
    rintro e w' ⟨⟨k,h1,h2⟩,h3⟩
    exact ⟨k,h1,h2,h3⟩
   have FIN:Hid (∀ ww v,Same0 w ww→FltAt ww [(81,(s:Int)),(82,z)] v→BldPost L R (s:Int) w (.returned (.tuple #[zeroC,v])) ww):=fun ww v hk hf=>⟨hk,by rw [if_pos hd];simp only [Int.toNat_natCast];rw [ht];exact ⟨v,rfl,hf⟩⟩
   clear hd CG ht
   go_enter_defers Tryz.func8,Tryz.ntmps8
   go_upto_region 1 with fail
   rw [← hW1]
   clear hW1
   go_upto_region 4 with (first | (go_at_call 35;refine C1.mono ?_;rintro e w2 ⟨bt,rfl,hs2,k2⟩))
   obtain ⟨r0,_⟩:=RC.out w2 k2
   have C2:=CD.out w2 bt k2 hs2.out
   go_upto_region 7 with (first | (go_at_call 36;refine C2.mono ?_;rintro e w3 ⟨rfl,k3⟩))
   have k13:=k2.trans' k3
   obtain ⟨r3,_⟩:=RC.out w3 k13
   have C3:=CR.out w3 bt k13 (sg_up (hs2.out.same k3) k3.size)
   go_wp2_with (first
    | (go_at_call 39;refine C3.mono ?_;rintro e w4 ⟨po,pc,ro,rc,rfl,hi,k4⟩;have C4:=CG2.out w4 bt po pc ro rc hi.out)
    | (go_at_call 40;refine C4.mono ?_;rintro e w5 ⟨k,rfl,hk,k5⟩))
   have k15:=(k13.trans' k4).trans' k5
   obtain ⟨x0,⟨q0,q1,q2,q3⟩,⟨f0,f1,f2,f3⟩,q4,f4⟩:=RC.out _ k15
   obtain ⟨b1,b2,b3⟩:=BK.out w5 k15
   refine leaves_cons (f:=37) (args:=#[.pointer (some ⟨w.heap.size,0,none⟩),.pointer (some ⟨w.heap.size+1+1,0,none⟩)]) (by simp) (by simp [go_sem]) ?_
   refine (catch_fork k w5 x0 b3 (by omega)).mono ?_
   rintro e u' w6 ⟨rfl,rfl,q,h1,h2,k6⟩
   have b2' := k6.at b2 (fun e=>by omega)
   have g0:=cellAt b2' 0
   have g1:=cellAt b2' 1
   have g2:=cellAt b2' 2
   have g3:=cellAt b2' 3
   have g4:=cellAt h2 0
   simp only [List.getElem?_toArray,List.getElem?_cons_zero,List.getElem?_cons_succ] at g0 g1 g2 g3 g4
   have hk6:=k6.at hk.out (fun e=>by subst e;have:=hk.out;rw [b3] at this;cases this)
   have ks:Same0 w w6:=Kept.trans (KW.trans' k15) k6 (fun i hi e=>by omega)
   simp [Leaves,settle,results,Tryz.results8,go_sem,g0,g1,g2,g3,g4]
   exact FIN.out _ _ ks (.inr ⟨by omega,q,_,rfl,h1,.inr ⟨by omega,k,_,rfl,hk6,rfl⟩⟩)
end Go.Proofs.YtjahpnbijefncaaGreat
namespace Go.Proofs.YtjahpnbijefncaaGreat
set_option linter.unusedVariables false
theorem vs_le:∀ (t o:List Int),(vs o t).length≤o.length+negN t
 | [],o=>by simp [vs_nil,negN]
 | x :: r,o=>by
  have e:vs o (x :: r)=vs (vstep o x) r:=rfl
  have h:=vs_le r (vstep o x)
  have hc:negN (x :: r)=negN r+if x<0 then 1 else 0:=by simp [negN,List.countP_cons]
  rw [e,hc]
  by_cases q:isV x=true∧¬ -x∈o
  ·have hx:x<0:=by have:=q.1;simp [isV] at this;omega
   have ev:vstep o x=o ++ [-x]:=by unfold vstep;rw [if_pos q]
   rw [ev] at h ⊢
   rw [if_pos hx]
   simp at h
   omega
  ·have ev:vstep o x=o:=by unfold vstep;rw [if_neg q]
   rw [ev] at h ⊢
   omega
theorem mw_fit {L:List Sym}:∀ (p:List Int) (k:Nat) (ts:List Int) (σ:Tb) (o:List Int),(vs o p).length=o.length+negN p→(∀ x∈p, -99≤x)→need L k p=some 0→need L k ts=some 0→(∀ n:Int,n<0→¬ -n∈o→σ (-n).toNat=[])→(mw L p ts σ).isSome=fitK L p k ts
 | [],k,ts,σ,o,_,_,h1,_,_=>by
  simp only [need,Option.some.injEq] at h1
  subst h1
  simp [mw,fitK]
 | n :: r,k,ts,σ,o,hv,hb,h1,h2,hs=>by
  have he:Even L (n :: r) ts:=⟨k,h1,h2⟩
  obtain ⟨x,ts', rfl,_,_⟩:=he.cons
  cases k with
  | zero=>simp [need] at h1
  | succ k=>
   simp only [need] at h1
   have e:vs o (n :: r)=vs (vstep o n) r:=rfl
   have hc:negN (n :: r)=negN r+if n<0 then 1 else 0:=by simp [negN,List.countP_cons]
   rw [e,hc] at hv
   have hb' : ∀ x∈r, -99≤x:=fun x hx=>hb x (List.mem_cons_of_mem _ hx)
   by_cases hn:0≤n
   ·have ev:vstep o n=o:=by unfold vstep;rw [if_neg (fun q=>by have:=q.1;simp [isV] at this;omega)]
    rw [ev,if_neg (by omega)] at hv
    rw [mw_sym hn,fitK_sym hn]
    by_cases ex:x=n
    ·subst ex
     simp only [need] at h2
     rw [if_pos rfl,mw_fit r _ ts' σ o (by omega) hb' h1 h2 hs]
     simp
    ·rw [if_neg ex];simp [ex]
   ·have hv99:isV n=true:=by have:=hb n (List.mem_cons_self ..);simp [isV];omega
    rw [if_pos (by omega)] at hv
    have hno:¬ -n∈o:=fun q=>by
     have ev:vstep o n=o:=by unfold vstep;rw [if_neg (fun z=>z.2 q)]
     rw [ev] at hv
     have:=vs_le r o
     omega
    have ev:vstep o n=o ++ [-n]:=by unfold vstep;rw [if_pos ⟨hv99,hno⟩]
    rw [ev] at hv
    rw [arN_neg hn,Nat.add_zero] at h1
    obtain ⟨m,g1,g2,g3⟩:=need_split (a:=1) (b:=k) (ts:=x :: ts') (by rw [Nat.add_comm];exact h2)
    have hh:(headT L (x :: ts')).length=m:=by rw [headT,g1,Option.getD_some,List.length_take];omega
    rw [mw_new hn (hs n (by omega) hno),fitK_var hn g1,hh]
    exact mw_fit r k _ _ (o ++ [-n]) (by simp;omega) hb' h1 g3 (fun z hz hzo=>by
     have hne:z≠n:=fun q=>hzo (by rw [q];simp)
     rw [upd_else (by omega)]
     exact hs z hz (fun q=>hzo (List.mem_append_left _ q)))
section
variable {L : List Sym} {R : List Ru} {T : List Int} {a : Nat}
theorem GoodR.lin (h:GoodR L R) {i:Nat} (hi:i<R.length):negN R[i].1=(varsL R[i].1).length:=by
 have:=h.2 i hi 3 (by omega)
 simpa [askB] using this
theorem good_match (h:GoodR L R) {i:Nat} (hi:i<R.length) (hc:checkE L T=0) (ha:a<T.length):matchE L R[i].1 T (a:Int)=0∧(matchS L R[i].1 T (a:Int)).isSome=fitK L R[i].1 1 (subN L T a):=by
 have hf:=h.facts hi
 have h1:=checkE_zero.1 hf.ok.1
 have hT:=checkE_zero.1 hc
 have e:matchE L R[i].1 T (a:Int)=0:=by
  unfold matchE placeE
  rw [if_neg (by simp [hf.ok.1]),if_neg (by simp [hc]),if_neg (by omega)]
 refine ⟨e,?_⟩
 unfold matchS
 rw [if_pos e,Int.toNat_natCast]
 have hl:=h.lin hi
 exact mw_fit _ 1 _ noT [] (by rw [hl];simp [varsL]) (fun x hx=>(badE_zero.1 h1.2.1 x hx).2) h1.2.2 (sub_need hT.2.2 ha) (fun _ _ _=>rfl)
end
end Go.Proofs.YtjahpnbijefncaaGreat
namespace Go.Proofs.YtjahpnbijefncaaGreat
set_option maxRecDepth 100000
set_option linter.unusedVariables false
open Go.RowKit
theorem run_cons9 (L:List Sym) (st:List (Nat × Nat)) (x:Int) (r:List Int):run L st (x :: r)=run L (pass st (arN L x)) r:=rfl
theorem need_nil9 {L:List Sym} {r:List Int} (h:need L 0 r=some 0):r=[]:=by
 cases r with
 | nil=>rfl
 | cons x r=>simp [need] at h
theorem run_terms {L:List Sym}:∀ (n:Nat) (ts:List Int),ts.length≤n→(need L 1 ts=some 0→∀ st,run L st ts=bump st)∧(∀ (k j a:Nat) (st:List (Nat × Nat)),need L (k+1) ts=some 0→j+(k+1)=a→run L ((j,a) :: st) ts=bump st)
 | 0,ts,hl=>by
  have e:ts=[]:=List.eq_nil_of_length_eq_zero (by omega)
  subst e
  exact ⟨fun h=>by simp [need] at h,fun k j a st h=>by simp [need] at h⟩
 | n+1,ts,hl=>by
  have p1:∀ us:List Int,us.length≤n+1→need L 1 us=some 0→∀ st,run L st us=bump st:=by
   intro us hu h st
   cases us with
   | nil=>simp [need] at h
   | cons x r=>
    rw [run_cons9]
    have h2:need L (arN L x) r=some 0:=by
     have:need L (0+arN L x) r=some 0:=h
     rwa [Nat.zero_add] at this
    cases hx:arN L x with
    | zero=>
     rw [hx] at h2
     rw [need_nil9 h2]
     simp [pass,run]
    | succ m=>
     rw [hx] at h2
     have:=(run_terms n r (by simp at hu;omega)).2 m 0 (m+1) st h2 (by omega)
     rw [pass,if_pos (by omega)]
     exact this
  refine ⟨p1 ts hl,fun k j a st h ha=>?_⟩
  obtain ⟨m,h1,h2,h3⟩:=need_split (a:=1) (b:=k) (by rw [Nat.add_comm];exact h)
  have h4:=(scan_need h1).2
  have h5:=scan_pos (k:=0) h1
  have e:run L ((j,a) :: st) ts=run L (run L ((j,a) :: st) (ts.take m)) (ts.drop m):=by rw [← run_append,List.take_append_drop]
  rw [e,p1 (ts.take m) (by rw [List.length_take];omega) h4]
  cases k with
  | zero=>
   rw [need_nil9 h3]
   rw [bump,if_neg (by omega)]
   rfl
  | succ k=>
   rw [bump,if_pos (by omega)]
   exact (run_terms n (ts.drop m) (by rw [List.length_drop];omega)).2 k (j+1) a st h3 (by omega)
theorem run_inst {L:List Sym} {σ:Tb} (hg:∀ v,σ v≠[]→IsT L (σ v)) (st:List (Nat × Nat)) (n:Int):run L st (inst σ n)=pass st (arN L n):=by
 unfold inst
 by_cases h:0≤n∨σ (-n).toNat=[]
 ·rw [if_pos h];rfl
 ·rw [if_neg h]
  have h1:¬ 0≤n:=fun e=>h (.inl e)
  have h2:σ (-n).toNat≠[]:=fun e=>h (.inr e)
  rw [arN_neg h1,(run_terms _ _ (Nat.le_refl _)).1 (hg _ h2)]
  simp [pass]
theorem run_app9 {L:List Sym} {σ:Tb} (hg:∀ v,σ v≠[]→IsT L (σ v)):∀ (q:List Int) (st:List (Nat × Nat)),run L st (appT σ q)=run L st q
 | [],st=>rfl
 | n :: q,st=>by rw [app_cons,run_append,run_inst hg,run_cons9,run_app9 hg q]
theorem app_cut (σ:Tb) (p:List Int) (i:Nat):appT σ p=appT σ (p.take i)++appT σ (p.drop i):=by rw [← app_append,List.take_append_drop]
theorem way_app {L:List Sym} {σ:Tb} (hg:∀ v,σ v≠[]→IsT L (σ v)) (p:List Int) (i:Nat):way L (appT σ p) (appT σ (p.take i)).length=way L p i:=by
 unfold way
 rw [app_cut σ p i,List.take_left,run_app9 hg]
theorem app_succ (σ:Tb) {p:List Int} {i:Nat} (h:i<p.length):appT σ (p.take (i+1))=appT σ (p.take i)++inst σ p[i]:=by
 rw [List.take_add_one,List.getElem?_eq_getElem h,app_append]
 simp [app_cons,app_nil]
theorem inst_need {L:List Sym} {σ:Tb} (hg:∀ v,σ v≠[]→IsT L (σ v)) {n:Int} (hn:n<0):IsT L (inst σ n):=by
 unfold inst
 by_cases h:σ (-n).toNat=[]
 ·rw [if_pos (.inr h)]
  show need L 1 [n]=some 0
  simp [need,arN_neg (show ¬ 0≤n by omega)]
 ·rw [if_neg (fun e=>by rcases e with e | e;omega;exact h e)]
  exact hg _ h
theorem sub_app {L:List Sym} {σ:Tb} (hg:∀ v,σ v≠[]→IsT L (σ v)) {p:List Int} {i:Nat} (hi:i<p.length) (hn:p[i]<0):(appT σ (p.take i)).length<(appT σ p).length∧subN L (appT σ p) (appT σ (p.take i)).length=inst σ p[i]:=by
 have e:appT σ p=appT σ (p.take i)++(inst σ p[i]++appT σ (p.drop (i+1))):=by
  rw [app_cut σ p i]
  congr 1
  rw [List.drop_eq_getElem_cons hi,app_cons]
 have h0:=inst_need hg hn
 have h1:=isT_pos h0
 have h2:scan L 1 ((appT σ p).drop (appT σ (p.take i)).length)=some (inst σ p[i]).length:=by
  rw [e,List.drop_left]
  exact need_scan h0
 refine ⟨by rw [e];simp only [List.length_append];omega,?_⟩
 unfold subN
 rw [endN_of h2,e,← List.append_assoc,List.take_left' (by simp),List.drop_left]
theorem idxG_at {y:Int}:∀ (t:List Int) (k:Nat),y∈t→∃ (i:Nat) (h:i<t.length),idxG t k y=((k+i:Nat):Int)∧t[i]=y
 | [],k,h=>absurd h (by simp)
 | x :: r,k,h=>by
  by_cases e:y=x
  ·exact ⟨0,by simp,by rw [idxG,if_pos e];rfl,e.symm⟩
  ·have h' : y∈r:=by rcases List.mem_cons.1 h with h | h;exact absurd h e;exact h
   obtain ⟨i,hi,h1,h2⟩:=idxG_at r (k+1) h'
   exact ⟨i+1,by simp;omega,by rw [idxG,if_neg e,h1];congr 1;omega,by simpa using h2⟩
theorem sub_sub {L:List Sym} {T:List Int} {a p:Nat} (hT:IsT L T) (ha:a<T.length) (hp:p<(subN L T a).length):subN L T (a+p)=subN L (subN L T a) p:=by
 have h1:=end_sub hT ha hp
 have h2:=endN_le (sub_need hT ha) hp
 have h3:=drop_sub hT ha (Nat.le_of_lt hp)
 have e1:subN L T (a+p)=(T.drop (a+p)).take (endN L T (a+p)-(a+p)):=by rw [← List.drop_take];rfl
 have e2:subN L (subN L T a) p=((subN L T a).drop p).take (endN L (subN L T a) p-p):=by rw [← List.drop_take];rfl
 rw [e1,e2,h1,h3,List.take_append_of_le_length (by rw [List.length_drop];omega)]
 congr 1
 omega
theorem part_lead {L:List Sym} {p T:List Int} {a:Nat} {σ:Tb} (hp:checkE L p=0) (hT:checkE L T=0) (ha:a<T.length) (hm:mw L p (subN L T a) noT=some σ) {y:Int} (hy:y∈p) (hn:y<0):∃ q:Nat,leads L T a (pathA L p (idxI p y))=some q∧q<T.length∧subN L T q=inst σ y:=by
 obtain ⟨p1,p2,p3⟩:=checkE_zero.1 hp
 obtain ⟨t1,t2,t3⟩:=checkE_zero.1 hT
 have hU:=sub_need t3 ha
 have hev:=even_term p3 hU
 have hmade:=mw_made hev hm
 have hse:=sub_end t3 ha
 have hg:∀ v,σ v≠[]→IsT L (σ v):=by
  have hb:badE L (subN L T a)=0:=by
   rw [badE_zero] at t2 ⊢
   exact fun x hx=>t2 x (List.mem_of_mem_take (List.mem_of_mem_drop hx))
  have:=mw_good hev hb (by omega) hm (fun v h=>absurd rfl h)
  exact fun v hv=>(checkE_zero.1 (this v hv)).2.2
 obtain ⟨i,hi,e1,e2⟩:=idxG_at p 0 hy
 rw [Nat.zero_add] at e1
 obtain ⟨s1,s2⟩:=sub_app hg hi (by rw [e2];exact hn)
 rw [e2] at s2
 rw [hmade] at s1 s2
 have hpl:placeE L p (i:Int)=0:=by
  unfold placeE
  rw [if_neg (by simp [hp]),if_neg (by omega)]
 have hw:=way_app hg p i
 rw [hmade] at hw
 have hlead:=leads_path hU s1
 have epath:pathA L p (idxI p y)=(pathN L (subN L T a) (appT σ (p.take i)).length).map (fun (x:Nat)=>(x:Int)):=by
  unfold idxI
  rw [e1,pathA,if_pos hpl,Int.toNat_natCast,firsts,pathN,hw,List.map_reverse]
  rfl
 have h9:=leads_sub t3 ha (pathA L p (idxI p y)) 0 (isT_pos hU)
 rw [Nat.add_zero,epath,hlead] at h9
 rw [← epath] at h9
 refine ⟨a+(appT σ (p.take i)).length,h9,by omega,?_⟩
 rw [sub_sub t3 ha s1,s2]
end Go.Proofs.YtjahpnbijefncaaGreat
namespace Go.Proofs.YtjahpnbijefncaaGreat
set_option maxRecDepth 100000
set_option linter.unusedVariables false
open Go.RowKit
attribute [local go_sem ↓] Go.wp_at_zero Go.wp_at_succ
theorem m_arg (v : Value) (w : World) : (Go.method 436 121 v "Arg").run Tryz.prog w = .ok (211, v) w := by kernel_rfl
theorem m_head (v : Value) (w : World) : (Go.method 436 121 v "Head").run Tryz.prog w = .ok (212, v) w := by kernel_rfl
set_option maxHeartbeats 2000000 in
theorem cask_none {p0 p1 p2 p3:Nat} (w:World) :
  CallsD Tryz.prog 180 #[.pointer (some ⟨p0,0,none⟩),.pointer (some ⟨p1,0,none⟩),.pointer (some ⟨p2,0,none⟩),.pointer (some ⟨p3,0,none⟩)] .returning w fun e u' w' => e=.returned (.tuple #[])∧u' = .returning∧w' = w:=by
 have hne:=any_nil
 refine callsD_of_wpS Tryz.func180 rfl fun c₀ cs hu=>?_
 apply wpS_seq
 apply wpS_region
 simp [wpOpsS,go_sem,recoverD,hu,Tryz.ntmps180,Exit.thenS]
 apply wpS_of_wp
 go_wp2_with fail
 simp [go_sem,bodyPostS,results,Tryz.results180]
 cases c₀
 simp only at hu
 subst hu
 rfl
theorem five_new (w:World) (o0 o1 o2 o3 o4:Obj):Same0 w (((((w.alloc o0).alloc o1).alloc o2).alloc o3).alloc o4)∧(((((w.alloc o0).alloc o1).alloc o2).alloc o3).alloc o4).heap[w.heap.size]? = some o0∧(((((w.alloc o0).alloc o1).alloc o2).alloc o3).alloc o4).heap[w.heap.size+1]? = some o1∧(((((w.alloc o0).alloc o1).alloc o2).alloc o3).alloc o4).heap[w.heap.size+1+1]? = some o2∧(((((w.alloc o0).alloc o1).alloc o2).alloc o3).alloc o4).heap[w.heap.size+1+1+1]? = some o3∧(((((w.alloc o0).alloc o1).alloc o2).alloc o3).alloc o4).heap[w.heap.size+1+1+1+1]? = some o4:=by
 obtain ⟨A,hA⟩:∃ A,A=w.alloc o0:=⟨_,rfl⟩
 obtain ⟨B,hB⟩:∃ B,B=A.alloc o1:=⟨_,rfl⟩
 obtain ⟨C,hC⟩:∃ C,C=B.alloc o2:=⟨_,rfl⟩
 obtain ⟨D,hD⟩:∃ D,D=C.alloc o3:=⟨_,rfl⟩
 have a0:A.heap[w.heap.size]? = some o0:=by rw [hA];exact heap_alloc_new _ _
 have a1:B.heap[A.heap.size]? = some o1:=by rw [hB];exact heap_alloc_new _ _
 have a2:C.heap[B.heap.size]? = some o2:=by rw [hC];exact heap_alloc_new _ _
 have a3:D.heap[C.heap.size]? = some o3:=by rw [hD];exact heap_alloc_new _ _
 have a4:(D.alloc o4).heap[D.heap.size]? = some o4:=heap_alloc_new _ _
 have kA:Same0 w A:=by rw [hA];exact (Kept.refl _ _).alloc _
 have kB:Same0 A B:=by rw [hB];exact (Kept.refl _ _).alloc _
 have kC:Same0 B C:=by rw [hC];exact (Kept.refl _ _).alloc _
 have kD:Same0 C D:=by rw [hD];exact (Kept.refl _ _).alloc _
 have kE:Same0 D (D.alloc o4):=(Kept.refl _ _).alloc _
 have sA:A.heap.size=w.heap.size+1:=by rw [hA];simp
 have sB:B.heap.size=w.heap.size+1+1:=by rw [hB];simp [sA]
 have sC:C.heap.size=w.heap.size+1+1+1:=by rw [hC];simp [sB]
 have sD:D.heap.size=w.heap.size+1+1+1+1:=by rw [hD];simp [sC]
 rw [sA] at a1
 rw [sB] at a2
 rw [sC] at a3
 rw [sD] at a4
 rw [← hA,← hB,← hC,← hD]
 exact ⟨(((kA.trans' kB).trans' kC).trans' kD).trans' kE,kE.at0 (kD.at0 (kC.at0 (kB.at0 a0))),kE.at0 (kD.at0 (kC.at0 a1)),kE.at0 (kD.at0 a2),kE.at0 a3,a4⟩
structure AskB (w:World) (n:Nat) (cs:Array Value) (x y:Int) (wr:World):Prop where
 same:Same0 w wr
 le:w.heap.size≤n
 bx:wr.heap[n]? = some (.cells cs 180 (0,0))
 b1:wr.heap[n+1]? = some (.cells #[.int .i64 x] 3 (0,0))
 b2:wr.heap[n+1+1]? = some (.cells #[.int .i64 y] 3 (0,0))
 b3:wr.heap[n+1+1+1]? = some (.cells #[.bool false] 4 (0,0))
 b4:wr.heap[n+1+1+1+1]? = some (.cells #[.int .i64 0] 58 (0,0))
theorem AskB.up {w:World} {n:Nat} {cs:Array Value} {x y:Int} {wr w' : World} (h:AskB w n cs x y wr) (hk:Same0 wr w'):AskB w n cs x y w' :=
 ⟨h.same.trans' hk,h.le,hk.at0 h.bx,hk.at0 h.b1,hk.at0 h.b2,hk.at0 h.b3,hk.at0 h.b4⟩
theorem AskB.setx {w:World} {n:Nat} {cs:Array Value} {x y:Int} {wr:World} (h:AskB w n cs x y wr) (z:Int):AskB w n cs z y (wr.setCell ⟨n+1,0,none⟩ (.int .i64 z)):=by
 have k:=kept_at wr (n+1) 0 (.int .i64 z)
 have hle:=h.le
 exact ⟨Kept.trans h.same k (fun i hi e=>by omega),h.le,k.at h.bx (fun e=>by omega),setAt h.b1 0 _,k.at h.b2 (fun e=>by omega),k.at h.b3 (fun e=>by omega),k.at h.b4 (fun e=>by omega)⟩
theorem AskB.sety {w:World} {n:Nat} {cs:Array Value} {x y:Int} {wr:World} (h:AskB w n cs x y wr) (z:Int):AskB w n cs x z (wr.setCell ⟨n+1+1,0,none⟩ (.int .i64 z)):=by
 have k:=kept_at wr (n+1+1) 0 (.int .i64 z)
 have hle:=h.le
 exact ⟨Kept.trans h.same k (fun i hi e=>by omega),h.le,k.at h.bx (fun e=>by omega),k.at h.b1 (fun e=>by omega),setAt h.b2 0 _,k.at h.b3 (fun e=>by omega),k.at h.b4 (fun e=>by omega)⟩
theorem AskB.setb {w:World} {n:Nat} {cs:Array Value} {x y:Int} {wr:World} (h:AskB w n cs x y wr):AskB w n cs x y (wr.setCell ⟨n+1+1+1,0,none⟩ (.bool false)):=by
 have k:=kept_at wr (n+1+1+1) 0 (.bool false)
 have hle:=h.le
 exact ⟨Kept.trans h.same k (fun i hi e=>by omega),h.le,k.at h.bx (fun e=>by omega),k.at h.b1 (fun e=>by omega),k.at h.b2 (fun e=>by omega),setAt h.b3 0 _,k.at h.b4 (fun e=>by omega)⟩
theorem AskB.sete {w:World} {n:Nat} {cs:Array Value} {x y:Int} {wr:World} (h:AskB w n cs x y wr):AskB w n cs x y (wr.setCell ⟨n+1+1+1+1,0,none⟩ (.int .i64 0)):=by
 have k:=kept_at wr (n+1+1+1+1) 0 (.int .i64 0)
 have hle:=h.le
 exact ⟨Kept.trans h.same k (fun i hi e=>by omega),h.le,k.at h.bx (fun e=>by omega),k.at h.b1 (fun e=>by omega),k.at h.b2 (fun e=>by omega),k.at h.b3 (fun e=>by omega),setAt h.b4 0 _⟩
theorem AskB.cells {w:World} {n:Nat} {cs:Array Value} {x y:Int} {wr:World} (h:AskB w n cs x y wr):(wr.cell? ⟨n+1,0,none⟩=some (.int .i64 x)∧wr.cell? ⟨n+1+1,0,none⟩=some (.int .i64 y)∧wr.cell? ⟨n+1+1+1,0,none⟩=some (.bool false)∧wr.cell? ⟨n+1+1+1+1,0,none⟩=some (.int .i64 0))∧wr.frozen? ⟨n+1,0,none⟩=false∧wr.frozen? ⟨n+1+1,0,none⟩=false∧wr.frozen? ⟨n+1+1+1,0,none⟩=false∧wr.frozen? ⟨n+1+1+1+1,0,none⟩=false:=
 ⟨⟨cellAt h.b1 0,cellAt h.b2 0,cellAt h.b3 0,cellAt h.b4 0⟩,frozenAt h.b1 0,frozenAt h.b2 0,frozenAt h.b3 0,frozenAt h.b4 0⟩
def wayI (L:List Sym) (ok:Bool) (T:List Int) (node:Int) (p:List Int):Int:=p.foldl (fun x n=>argI L ok T x n) node
theorem wayI_take {L:List Sym} {ok:Bool} {T:List Int} {node:Int} {p:List Int} {k:Nat} (h:k<p.length):wayI L ok T node (p.take (k+1))=argI L ok T (wayI L ok T node (p.take k)) p[k]:=by
 have e:p.take (k+1)=p.take k ++ [p[k]]:=by rw [List.take_add_one,List.getElem?_eq_getElem h];rfl
 unfold wayI
 rw [e,List.foldl_append];rfl
set_option maxHeartbeats 16000000 in
theorem cask_any {base:Nat} {w:World} {L:List Sym} {ok:Bool} {T:List Int} {ho:Option Addr} {hn hc:Nat} {go:Option Addr} {gn gc:Nat} (hv:VwAt base w L ok T (.agg #[.slice ho hn hc,.slice go gn gc])) {po:Option Addr} {pc:Nat} {p:List Int} (hp:IntsAt w po p) (hm:p.length≤maxLen) (c0 c1 c2 c3:Option Addr) (l0 l1 l2 l3 d0 d1 d2 d3:Nat) (node:Int) :
  Calls Tryz.prog 158 #[.agg #[.slice c0 l0 d0,.slice c1 l1 d1,.slice c2 l2 d2,.slice c3 l3 d3,.iface 121 (.agg #[.slice ho hn hc,.slice go gn gc]),.int .i64 node],.slice po p.length pc] w fun e w' => e=.returned (.tuple #[.int .i64 (wayI L ok T node p),.int .i64 (headI ok T (wayI L ok T node p)),.bool false,.int .i64 0])∧Same0 w w' := by
 have mA:=m_arg
 have mH:=m_head
 unfold maxLen at hm
 obtain ⟨W1,hW1⟩:∃ W1,W1=((((w.alloc (.cells #[.slice c0 l0 d0,.slice c1 l1 d1,.slice c2 l2 d2,.slice c3 l3 d3,.iface 121 (.agg #[.slice ho hn hc,.slice go gn gc]),.int .i64 node] 180)).alloc (.cells #[.int .i64 0] 3)).alloc (.cells #[.int .i64 0] 3)).alloc (.cells #[.bool false] 4)).alloc (.cells #[.int .i64 0] 58):=⟨_,rfl⟩
 have A1:AskB w w.heap.size #[.slice c0 l0 d0,.slice c1 l1 d1,.slice c2 l2 d2,.slice c3 l3 d3,.iface 121 (.agg #[.slice ho hn hc,.slice go gn gc]),.int .i64 node] 0 0 W1:=by
  obtain ⟨q0,q1,q2,q3,q4,q5⟩:=five_new w (.cells #[.slice c0 l0 d0,.slice c1 l1 d1,.slice c2 l2 d2,.slice c3 l3 d3,.iface 121 (.agg #[.slice ho hn hc,.slice go gn gc]),.int .i64 node] 180) (.cells #[.int .i64 0] 3) (.cells #[.int .i64 0] 3) (.cells #[.bool false] 4) (.cells #[.int .i64 0] 58)
  rw [← hW1] at q0 q1 q2 q3 q4 q5
  exact ⟨q0,Nat.le_refl _,q1,q2,q3,q4,q5⟩
 have HP:Hid (∀ ww k (hk:k<p.length),Same0 w ww→∃ pb off,po=some ⟨pb,off,none⟩∧ww.cell? ⟨pb,off+k,none⟩=some (.int .i64 p[k])):=fun ww k hk hs=>by
  obtain ⟨pb,off,e,_,hcc⟩:=(hp.same hs).get hk
  exact ⟨pb,off,e,hcc⟩
 have CA:Hid (∀ ww x z,Same0 w ww→Calls Tryz.prog 211 #[.agg #[.slice ho hn hc,.slice go gn gc],.int .i64 x,.int .i64 z] ww fun e w' => e=.returned (.int .i64 (argI L ok T x z))∧Same0 ww w'):=fun ww x z hk=>arg_any (hv.same hk) x z
 have CH:Hid (∀ ww x,Same0 w ww→Calls Tryz.prog 212 #[.agg #[.slice ho hn hc,.slice go gn gc],.int .i64 x] ww fun e w' => e=.returned (.tuple #[.int .i64 (headI ok T x),.bool false])∧Same0 ww w'):=fun ww x hk=>head_any (hv.same hk) x
 have BX:Hid (∀ x y ww,AskB w w.heap.size #[.slice c0 l0 d0,.slice c1 l1 d1,.slice c2 l2 d2,.slice c3 l3 d3,.iface 121 (.agg #[.slice ho hn hc,.slice go gn gc]),.int .i64 node] x y ww→ww.cell? ⟨w.heap.size,4,none⟩=some (.iface 121 (.agg #[.slice ho hn hc,.slice go gn gc]))∧ww.cell? ⟨w.heap.size,5,none⟩=some (.int .i64 node)):=fun x y ww h=>⟨cellAt h.bx 4,cellAt h.bx 5⟩
 obtain ⟨x4,x5⟩:=BX.out _ _ _ A1
 obtain ⟨⟨a1,a2,a3,a4⟩,f1,f2,f3,f4⟩:=A1.cells
 have H2:Hid (AskB w w.heap.size #[.slice c0 l0 d0,.slice c1 l1 d1,.slice c2 l2 d2,.slice c3 l3 d3,.iface 121 (.agg #[.slice ho hn hc,.slice go gn gc]),.int .i64 node] (wayI L ok T node (p.take 0)) 0 (W1.setCell ⟨w.heap.size+1,0,none⟩ (.int .i64 node))):=A1.setx node
 clear hv hp A1
 go_enter_defers Tryz.func158,Tryz.ntmps158
 go_upto_region 1 with fail
 rw [← hW1]
 clear hW1
 go_upto_region 4 with fail
 go_loopw [15] (fun s15 wr=>∃ k:Nat,k≤p.length∧s15=.int .i64 (k:Int)∧AskB w w.heap.size #[.slice c0 l0 d0,.slice c1 l1 d1,.slice c2 l2 d2,.slice c3 l3 d3,.iface 121 (.agg #[.slice ho hn hc,.slice go gn gc]),.int .i64 node] (wayI L ok T node (p.take k)) 0 wr) (fun s15 _=>p.length-(intOf s15).toNat)
 case atStart=>exact ⟨0,Nat.zero_le _,rfl,H2.out⟩
 case round=>
  clear H2 x4 x5 a1 a2 a3 a4 f1 f2 f3 f4
  obtain ⟨k,hk,rfl,hA⟩:=hrel
  obtain ⟨x4,x5⟩:=BX.out _ _ _ hA
  obtain ⟨⟨a1,a2,a3,a4⟩,f1,f2,f3,f4⟩:=hA.cells
  by_cases hlt:k<p.length
  ·obtain ⟨pb,off,rfl,hcl⟩:=HP.out wr k hlt hA.same
   have C:=CA.out wr (wayI L ok T node (p.take k)) p[k] hA.same
   have NX:Hid (∀ ww,Same0 wr ww→(ww.cell? ⟨w.heap.size+1,0,none⟩=some (.int .i64 (wayI L ok T node (p.take k)))∧ww.frozen? ⟨w.heap.size+1,0,none⟩=false)∧AskB w w.heap.size #[.slice c0 l0 d0,.slice c1 l1 d1,.slice c2 l2 d2,.slice c3 l3 d3,.iface 121 (.agg #[.slice ho hn hc,.slice go gn gc]),.int .i64 node] (wayI L ok T node (p.take (k+1))) 0 (ww.setCell ⟨w.heap.size+1,0,none⟩ (.int .i64 (argI L ok T (wayI L ok T node (p.take k)) p[k])))):=fun ww hs=>by
    rw [wayI_take hlt]
    exact ⟨⟨(hA.up hs).cells.1.1,(hA.up hs).cells.2.1⟩,(hA.up hs).setx _⟩
   have i1:(0:Int)≤(k:Int):=by omega
   have i2:(k:Int)<(p.length:Int):=by omega
   generalize argI L ok T (wayI L ok T node (p.take k)) p[k]=z at *
   generalize wayI L ok T node (p.take k)=y at *
   generalize p[k]=q at *
   clear hA CA CH HP BX
   go_wp2_with (first | (go_at_call 211;refine C.mono ?_;rintro e w2 ⟨rfl,k2⟩;obtain ⟨⟨m0,m1⟩,m2⟩:=NX.out w2 k2))
   go_roundw
   case rel=>first | exact ⟨k+1,by omega,by go_num,m2⟩ | ((repeat apply Exists.intro);exact ⟨⟨k+1,by omega,by go_num,m2⟩,rfl⟩)
   case measure=>simp [intOf];omega
  ·obtain rfl:k=p.length:=by omega
   rw [List.take_of_length_le (Nat.le_refl _)] at hA a1
   have C:=CH.out wr (wayI L ok T node p) hA.same
   have NX:Hid (∀ ww,Same0 wr ww→AskB w w.heap.size #[.slice c0 l0 d0,.slice c1 l1 d1,.slice c2 l2 d2,.slice c3 l3 d3,.iface 121 (.agg #[.slice ho hn hc,.slice go gn gc]),.int .i64 node] (wayI L ok T node p) 0 ww):=fun ww hs=>hA.up hs
   obtain ⟨y,hy⟩:∃ y,y=wayI L ok T node p:=⟨_,rfl⟩
   obtain ⟨z,hz⟩:∃ z,z=headI ok T (wayI L ok T node p):=⟨_,rfl⟩
   have HYZ:Hid (y=wayI L ok T node p∧z=headI ok T (wayI L ok T node p)):=⟨hy,hz⟩
   rw [← hz,← hy] at C
   rw [← hy] at NX a1
   clear hy hz
   clear hA CA CH HP BX
   go_upto_region 9 with (first | (go_at_call 212;refine C.mono ?_;rintro e w2 ⟨rfl,k2⟩;have n0:=NX.out w2 k2;obtain ⟨⟨b1,b2,b3,b4⟩,g1,g2,g3,g4⟩:=n0.cells;obtain ⟨⟨e1,e2,e3,e4⟩,h1,h2,h3,h4⟩:=(n0.sety z).cells))
   have n3:=(n0.sety z).setb
   obtain ⟨w3,hw3⟩:∃ w3,w3=(w2.setCell ⟨w.heap.size+1+1,0,none⟩ (.int .i64 z)).setCell ⟨w.heap.size+1+1+1,0,none⟩ (.bool false):=⟨_,rfl⟩
   rw [← hw3] at n3 ⊢
   clear hw3 n0 b1 b2 b3 b4 g1 g2 g3 g4 e1 e2 e3 e4 h1 h2 h3 h4 x4 x5 a1 a2 a3 a4 f1 f2 f3 f4 NX k2 C
   obtain ⟨⟨a1,a2,a3,a4⟩,f1,f2,f3,f4⟩:=n3.cells
   obtain ⟨⟨b1,b2,b3,b4⟩,g1,g2,g3,g4⟩:=(n3.setx y).cells
   obtain ⟨⟨c1', c2', c3', c4'⟩,i1,i2,i3,i4⟩:=((n3.setx y).sety z).cells
   obtain ⟨⟨e1,e2,e3,e4⟩,h1,h2,h3,h4⟩:=(((n3.setx y).sety z).setb).cells
   have nf:=(((n3.setx y).sety z).setb).sete
   have NF:Hid _:=nf
   clear nf n3
   go_region
   all_goals
    go_wp2_with fail
    refine leaves_cons (f:=180) (args:=#[.pointer (some ⟨w.heap.size+1,0,none⟩),.pointer (some ⟨w.heap.size+1+1,0,none⟩),.pointer (some ⟨w.heap.size+1+1+1,0,none⟩),.pointer (some ⟨w.heap.size+1+1+1+1,0,none⟩)]) (by simp) (by simp [go_sem]) ?_
    refine (cask_none _).mono ?_
    rintro e u' w'' ⟨rfl,rfl,rfl⟩
    have nn:=NF.out.up (Kept.drew (Kept.refl _ _))
    obtain ⟨⟨r1,r2,r3,r4⟩,_⟩:=nn.cells
    simp [Leaves,settle,results,Tryz.results158,go_sem,r1,r2,r3,r4]
    exact ⟨HYZ.out,nn.same⟩
end Go.Proofs.YtjahpnbijefncaaGreat
namespace Go.Proofs.YtjahpnbijefncaaGreat
set_option linter.unusedVariables false
abbrev I3:=Int × Int × Int
abbrev St9:=List I3 × List (List Int)
def setB:List I3→Nat→Int→List I3
 | [],_,_=>[]
 | x :: r,0,b=>(x.1,x.2.1,b) :: r
 | x :: r,c+1,b=>x :: setB r c b
theorem setB_length:∀ (I:List I3) (c:Nat) (b:Int),(setB I c b).length=I.length
 | [],_,_=>rfl
 | _ :: _,0,_=>rfl
 | _ :: r,c+1,b=>by simp [setB,setB_length r c b]
def layK {α:Type} (f:α→St9→St9):List (Int × α)→Nat→St9→St9
 | [],_,s=>s
 | x :: r,c,s=>layK f r (c+1) (f x.2 (setB s.1 c (s.1.length:Int),s.2))
theorem layK_snoc {α:Type} (f:α→St9→St9):∀ (l:List (Int × α)) (x:Int × α) (c:Nat) (s:St9),layK f (l ++ [x]) c s=f x.2 (setB (layK f l c s).1 (c+l.length) ((layK f l c s).1.length:Int),(layK f l c s).2)
 | [],x,c,s=>by simp [layK]
 | y :: r,x,c,s=>by
  rw [List.cons_append,layK,layK_snoc f r x (c+1),List.length_cons]
  simp only [layK]
  rw [show c+1+r.length=c+(r.length+1) by omega]
def headS (p:List Int) (ks:List Int) (s:St9):St9:=(s.1 ++ [(1,(s.2.length:Int),0)]++ks.map (fun k=>((2,k,0):I3)) ++ [(3,0,0)],s.2 ++ [p])
def layS:(n:Nat)→Tr n→St9→St9
 | 0,_,s=>s
 | n+1,(k,r,p,l),s=>
  if k=1 then (s.1 ++ [(4,r,0)],s.2)
  else if k=2 then layK (layS n) l (s.1.length+1) (headS p (l.map (fun x=>x.1)) s)
  else (s.1 ++ [(3,0,0)],s.2)
def insN:(n:Nat)→Tr n→Nat
 | 0,_=>0
 | n+1,(k,r,p,l)=>if k=2 then 3+l.length+sumN (l.map (fun x=>insN n x.2)) else 1
theorem layK_len {α:Type} {f:α→St9→St9} {g:α→Nat}:∀ (l:List (Int × α)) (c:Nat) (s:St9),(∀ x∈l,∀ s,(f x.2 s).1.length+(f x.2 s).2.length≤s.1.length+s.2.length+g x.2∧s.1.length≤(f x.2 s).1.length∧s.2.length≤(f x.2 s).2.length)→(layK f l c s).1.length+(layK f l c s).2.length≤s.1.length+s.2.length+sumN (l.map (fun x=>g x.2))∧s.1.length≤(layK f l c s).1.length∧s.2.length≤(layK f l c s).2.length
 | [],c,s,_=>by simp [layK,sumN]
 | x :: r,c,s,h=>by
  obtain ⟨a1,a2,a3⟩:=h x (List.mem_cons_self ..) (setB s.1 c (s.1.length:Int),s.2)
  obtain ⟨b1,b2,b3⟩:=layK_len (g:=g) r (c+1) (f x.2 (setB s.1 c (s.1.length:Int),s.2)) (fun y hy=>h y (List.mem_cons_of_mem _ hy))
  simp only [setB_length] at a1 a2 a3
  simp only [layK,List.map_cons,sumN]
  omega
theorem layS_eq {n:Nat} (k r:Int) (p:List Int) (l:List (Int × Tr n)) (s:St9):layS (n+1) (k,r,p,l) s=if k=1 then (s.1 ++ [(4,r,0)],s.2) else if k=2 then layK (layS n) l (s.1.length+1) (headS p (l.map (fun x=>x.1)) s) else (s.1 ++ [(3,0,0)],s.2):=rfl
theorem insN_eq {n:Nat} (k r:Int) (p:List Int) (l:List (Int × Tr n)):insN (n+1) (k,r,p,l)=if k=2 then 3+l.length+sumN (l.map (fun x=>insN n x.2)) else 1:=rfl
theorem layS_len:∀ (n:Nat) (t:Tr n) (s:St9),(layS n t s).1.length+(layS n t s).2.length≤s.1.length+s.2.length+insN n t∧s.1.length≤(layS n t s).1.length∧s.2.length≤(layS n t s).2.length
 | 0,_,s=>by simp [layS,insN]
 | n+1,(k,r,p,l),s=>by
  rw [layS_eq,insN_eq]
  by_cases h1:k=1
  ·rw [if_pos h1,if_neg (by omega)];simp;omega
  ·rw [if_neg h1]
   by_cases h2:k=2
   ·rw [if_pos h2,if_pos h2]
    obtain ⟨a,b,c⟩:=layK_len (f:=layS n) (g:=insN n) l (s.1.length+1) (headS p (l.map (fun x=>x.1)) s) (fun x _ s=>layS_len n x.2 s)
    have e1:(headS p (l.map (fun x=>x.1)) s).1.length=s.1.length+1+l.length+1:=by simp [headS];omega
    have e2:(headS p (l.map (fun x=>x.1)) s).2.length=s.2.length+1:=by simp [headS]
    rw [e1,e2] at a
    rw [e1] at b
    rw [e2] at c
    omega
   ·rw [if_neg h2,if_neg h2];simp;omega
theorem layS_leaf {n:Nat} {k r:Int} {p:List Int} {l:List (Int × Tr n)} (h:k=1) (s:St9):layS (n+1) (k,r,p,l) s=(s.1 ++ [(4,r,0)],s.2):=by
 rw [layS_eq,if_pos h]
theorem layS_branch {n:Nat} {k r:Int} {p:List Int} {l:List (Int × Tr n)} (h:k=2) (s:St9):layS (n+1) (k,r,p,l) s=layK (layS n) l (s.1.length+1) (headS p (l.map (fun x=>x.1)) s):=by
 rw [layS_eq,if_neg (by omega),if_pos h]
theorem layS_fail {n:Nat} {k r:Int} {p:List Int} {l:List (Int × Tr n)} (h1:¬ k=1) (h2:¬ k=2) (s:St9):layS (n+1) (k,r,p,l) s=(s.1 ++ [(3,0,0)],s.2):=by
 rw [layS_eq,if_neg h1,if_neg h2]
def flat3 (I:List I3):List Int:=I.flatMap (fun x=>[x.1,x.2.1,x.2.2])
theorem flat3_append (a b:List I3):flat3 (a++b)=flat3 a++flat3 b:=by simp [flat3]
theorem flat3_at:∀ (I:List I3) (i:Nat) (h:i<I.length),(flat3 I)[i * 3]? = some I[i].1∧(flat3 I)[i * 3+1]? = some I[i].2.1∧(flat3 I)[i * 3+2]? = some I[i].2.2
 | x :: r,0,h=>⟨rfl,rfl,rfl⟩
 | x :: r,i+1,h=>by
  have e:flat3 (x :: r)=x.1 :: x.2.1 :: x.2.2 :: flat3 r:=rfl
  have:=flat3_at r i (by simpa using h)
  rw [e,show (i+1) * 3=i * 3+1+1+1 by omega,show i * 3+1+1+1+1=(i * 3+1)+1+1+1 by omega,show i * 3+1+1+1+2=(i * 3+2)+1+1+1 by omega]
  simpa using this
theorem flat3_setB:∀ (I:List I3) (c:Nat) (b:Int),flat3 (setB I c b)=(flat3 I).set (c * 3+2) b
 | [],_,_=>by simp [setB,flat3]
 | x :: r,0,b=>rfl
 | x :: r,c+1,b=>by
  have e:∀ (x:I3) r,flat3 (x :: r)=x.1 :: x.2.1 :: x.2.2 :: flat3 r:=fun _ _=>rfl
  rw [setB,e,e,flat3_setB r c b,show (c+1) * 3+2=(c * 3+2)+1+1+1 by omega]
  rfl
end Go.Proofs.YtjahpnbijefncaaGreat
namespace Go.Proofs.YtjahpnbijefncaaGreat
set_option maxRecDepth 100000
set_option linter.unusedVariables false
open Go.RowKit
attribute [local go_sem ↓] Go.wp_at_zero Go.wp_at_succ
def caseG:List I3→Nat→Int→Nat × Bool
 | [],i,_=>(i,false)
 | x :: r,i,s=>if x.1=2 then (if x.2.1=s then (i,true) else caseG r (i+1) s) else (i,false)
def caseF (I:List I3) (s:Int) (a:Nat):Nat × Bool:=caseG (I.drop a) a s
theorem caseF_step {I:List I3} {s:Int} {a:Nat} (h:a<I.length):caseF I s a=if I[a].1=2 then (if I[a].2.1=s then (a,true) else caseF I s (a+1)) else (a,false):=by
 unfold caseF
 rw [List.drop_eq_getElem_cons h,caseG]
theorem caseF_end {I:List I3} {s:Int} {a:Nat} (h:I.length≤a):caseF I s a=(a,false):=by
 unfold caseF
 rw [List.drop_eq_nil_of_le h,caseG]
theorem caseG_le:∀ (l:List I3) (i:Nat) (s:Int),i≤(caseG l i s).1∧(caseG l i s).1≤i+l.length∧((caseG l i s).2=true→(caseG l i s).1<i+l.length)
 | [],i,s=>by simp [caseG]
 | x :: r,i,s=>by
  unfold caseG
  split
  ·split
   ·simp
   ·obtain ⟨a,b,c⟩:=caseG_le r (i+1) s
    refine ⟨by omega,by simp only [List.length_cons];omega,fun h=>?_⟩
    have:=c h
    simp only [List.length_cons];omega
  ·simp
theorem caseF_le {I:List I3} {s:Int} {a:Nat} (h:a≤I.length):a≤(caseF I s a).1∧(caseF I s a).1≤I.length∧((caseF I s a).2=true→(caseF I s a).1<I.length):=by
 obtain ⟨x,y,z⟩:=caseG_le (I.drop a) a s
 rw [List.length_drop] at y z
 refine ⟨x,by unfold caseF;omega,fun q=>?_⟩
 have:=z q
 unfold caseF;omega
def hasB (E:List Int) (n:Int):Bool:=idxB n E.length && decide (0≤E.getD n.toNat (-1))
abbrev R5:=Int × Int × List Int × Int × Int
def bad5:R5:=(0,0,[],0,92)
def lookF (L:List Sym) (ok:Bool) (T:List Int) (I:List I3) (E:List Int) (node:Int) (a:Nat) (p:List Int):R5 ⊕ Int:=
 if (caseF I (headI ok T (wayI L ok T node p)) (a+1)).2=true then
  (if (I.getD (caseF I (headI ok T (wayI L ok T node p)) (a+1)).1 (0,0,0)).2.2≤((caseF I (headI ok T (wayI L ok T node p)) (a+1)).1:Int) then .inl bad5 else .inr (I.getD (caseF I (headI ok T (wayI L ok T node p)) (a+1)).1 (0,0,0)).2.2)
 else if hasB E (headI ok T (wayI L ok T node p))=true then .inl (3,0,p,wayI L ok T node p,0) else .inr ((caseF I (headI ok T (wayI L ok T node p)) (a+1)).1:Int)
def runF (L:List Sym) (ok:Bool) (T:List Int) (I:List I3) (P:List (List Int)) (E:List Int) (node:Int):Nat→Nat→R5
 | 0,_=>bad5
 | f+1,a=>match I[a]? with
  | none=>bad5
  | some x=>if x.1=4 then (1,x.2.1,[],0,0) else if x.1=3 then (2,0,[],0,0)
   else if x.1=1∧idxB x.2.1 P.length=true then (match lookF L ok T I E node a (P.getD x.2.1.toNat []) with
    | .inl r=>r
    | .inr z=>runF L ok T I P E node f z.toNat)
   else bad5
theorem lookF_gt {L:List Sym} {ok:Bool} {T:List Int} {I:List I3} {E:List Int} {node:Int} {a:Nat} {p:List Int} (h:a<I.length) {z:Int} (hz:lookF L ok T I E node a p=.inr z):(a:Int)<z:=by
 unfold lookF at hz
 obtain ⟨x,_,_⟩:=caseF_le (I:=I) (s:=headI ok T (wayI L ok T node p)) (a:=a+1) (by omega)
 split at hz
 ·split at hz
  ·cases hz
  ·cases hz;omega
 ·split at hz
  ·cases hz
  ·cases hz;omega
theorem runF_more {L:List Sym} {ok:Bool} {T:List Int} {I:List I3} {P:List (List Int)} {E:List Int} {node:Int}:∀ (f g a:Nat),I.length<a+f→f≤g→runF L ok T I P E node f a=runF L ok T I P E node g a
 | 0,g,a,h,hg=>by
  cases g with
  | zero=>rfl
  | succ g=>
   rw [runF,runF,List.getElem?_eq_none (by omega)]
 | f+1,0,a,h,hg=>by omega
 | f+1,g+1,a,h,hg=>by
  rw [runF,runF]
  cases hi:I[a]? with
  | none=>rfl
  | some x=>
   have ha:a<I.length:=by
    rcases Nat.lt_or_ge a I.length with q | q
    ·exact q
    ·rw [List.getElem?_eq_none q] at hi;cases hi
   simp only
   split
   ·rfl
   ·split
    ·rfl
    ·split
     ·cases hl:lookF L ok T I E node a (P.getD x.2.1.toNat []) with
      | inl r=>rfl
      | inr z=>
       have:=lookF_gt ha hl
       exact runF_more f g z.toNat (by omega) (by omega)
     ·rfl
def codeF (L:List Sym) (ok:Bool) (T:List Int) (I:List I3) (P:List (List Int)) (E:List Int) (n node:Int):R5:=
 if hasB E n=true then runF L ok T I P E node (I.length+1) (E.getD n.toNat (-1)).toNat else (0,0,[],0,90)
def InsAt (w:World) (io:Option Addr) (I:List I3):Prop:=
 I=[]∨∃ b off,io=some ⟨b,off,none⟩∧b<w.heap.size∧∀ i (h:i<I.length),w.cell? ⟨b,off+i * 3,none⟩=some (.int .i64 I[i].1)∧w.cell? ⟨b,off+i * 3+1,none⟩=some (.int .i64 I[i].2.1)∧w.cell? ⟨b,off+i * 3+2,none⟩=some (.int .i64 I[i].2.2)
theorem InsAt.same {w w' : World} {io:Option Addr} {I:List I3} (h:InsAt w io I) (hk:Same0 w w'):InsAt w' io I:=by
 refine h.imp id ?_
 rintro ⟨b,off,e,hb,hc⟩
 refine ⟨b,off,e,Nat.lt_of_lt_of_le hb hk.size,fun i hi=>?_⟩
 obtain ⟨c0,c1,c2⟩:=hc i hi
 exact ⟨(hk.cell (p:=⟨b,off+i * 3,none⟩) hb (fun f=>f)).trans c0,(hk.cell (p:=⟨b,off+i * 3+1,none⟩) hb (fun f=>f)).trans c1,(hk.cell (p:=⟨b,off+i * 3+2,none⟩) hb (fun f=>f)).trans c2⟩
theorem InsAt.get {w:World} {io:Option Addr} {I:List I3} (h:InsAt w io I) {i:Nat} (hi:i<I.length):∃ b off,io=some ⟨b,off,none⟩∧b<w.heap.size∧w.cell? ⟨b,off+i * 3,none⟩=some (.int .i64 I[i].1)∧w.cell? ⟨b,off+i * 3+1,none⟩=some (.int .i64 I[i].2.1)∧w.cell? ⟨b,off+i * 3+2,none⟩=some (.int .i64 I[i].2.2):=by
 rcases h with rfl | ⟨b,off,e,hb,hc⟩
 ·simp at hi
 ·exact ⟨b,off,e,hb,hc i hi⟩
def PthAt (w:World) (po:Option Addr) (P:List (List Int)):Prop:=
 P=[]∨∃ b off,po=some ⟨b,off,none⟩∧b<w.heap.size∧∀ i (h:i<P.length),∃ ao ac,w.cell? ⟨b,off+i,none⟩=some (.slice ao P[i].length ac)∧Arg w ao P[i] ac
theorem PthAt.same {w w' : World} {po:Option Addr} {P:List (List Int)} (h:PthAt w po P) (hk:Same0 w w'):PthAt w' po P:=by
 refine h.imp id ?_
 rintro ⟨b,off,e,hb,hc⟩
 refine ⟨b,off,e,Nat.lt_of_lt_of_le hb hk.size,fun i hi=>?_⟩
 obtain ⟨ao,ac,c0,c1⟩:=hc i hi
 exact ⟨ao,ac,(hk.cell (p:=⟨b,off+i,none⟩) hb (fun f=>f)).trans c0,c1.same hk⟩
theorem PthAt.get {w:World} {po:Option Addr} {P:List (List Int)} (h:PthAt w po P) {i:Nat} (hi:i<P.length):∃ b off ao ac,po=some ⟨b,off,none⟩∧b<w.heap.size∧w.cell? ⟨b,off+i,none⟩=some (.slice ao P[i].length ac)∧Arg w ao P[i] ac:=by
 rcases h with rfl | ⟨b,off,e,hb,hc⟩
 ·simp at hi
 ·obtain ⟨ao,ac,c0,c1⟩:=hc i hi
  exact ⟨b,off,ao,ac,e,hb,c0,c1⟩
def FndOut (w:World) (R:R5) (e:Ending) (w' : World):Prop:=
 ∃ qo qc,e=.returned (.tuple #[.agg #[.int .i64 R.1,.int .i64 R.2.1,.slice qo R.2.2.1.length qc,.int .i64 R.2.2.2.1],.int .i64 R.2.2.2.2])∧Row w.heap.size w' (.slice qo R.2.2.1.length qc) R.2.2.1∧Same0 w w'
set_option maxHeartbeats 2000000 in
theorem chas_any {w:World} {eo:Option Addr} {E:List Int} (hE:IntsAt w eo E) (io po ro:Option Addr) (il ic pl pc ec rl rc:Nat) (n:Int) :
  Calls Tryz.prog 91 #[.agg #[.slice io il ic,.slice po pl pc,.slice eo E.length ec,.slice ro rl rc],.int .i64 n] w fun e w' => e=.returned (.bool (hasB E n))∧Same0 w w' := by
 have CI:=isIndex_any n E.length
 have ka:Same0 w (w.alloc (.cells #[.slice io il ic,.slice po pl pc,.slice eo E.length ec,.slice ro rl rc] 51)):=(Kept.refl _ w).alloc _
 cases hi:idxB n E.length with
 | false=>
  rw [hi] at CI
  have H:Hid (hasB E n=false):=by show _=_;simp [hasB,hi]
  clear hi hE
  go_enter Tryz.func91,Tryz.ntmps91
  go_wp2_with (first | (go_at_call 56;refine (CI _).mono ?_;rintro e w2 ⟨rfl,rfl⟩))
  go_ret
  exact ⟨by rw [H.out];rfl,ka⟩
 | true=>
  rw [hi] at CI
  obtain ⟨i,rfl,hl⟩:=idx_yes hi
  have H:Hid (hasB E (i:Int)=decide (0≤E[i])):=by
   show _=_
   simp [hasB,hi,hl]
  obtain ⟨b,off,rfl,hb,hcell⟩:=(hE.same ka).get hl
  have i1:(0:Int)≤(i:Int):=by omega
  have i2:(i:Int)<(E.length:Int):=by omega
  clear hi hE
  generalize E[i]=z at *
  go_enter Tryz.func91,Tryz.ntmps91
  go_wp2_with (first | (go_at_call 56;refine (CI _).mono ?_;rintro e w2 ⟨rfl,rfl⟩))
  go_ret
  exact ⟨by rw [H.out];rfl,ka⟩
set_option maxHeartbeats 4000000 in
theorem ccase_any {w:World} {io:Option Addr} {I:List I3} (hI:InsAt w io I) (hl:I.length≤140737488355328) (ic:Nat) (po eo ro:Option Addr) (pl pc el ec rl rc:Nat) (v:Value) (node s:Int) (a:Nat) (ha:a≤I.length) :
  Calls Tryz.prog 159 #[.agg #[.slice io I.length ic,.slice po pl pc,.slice eo el ec,.slice ro rl rc,.iface 121 v,.int .i64 node],.int .i64 s,.int .i64 (a:Int)] w fun e w' => e=.returned (.tuple #[.int .i64 ((caseF I s a).1:Int),.bool (caseF I s a).2])∧Same0 w w' := by
 obtain ⟨W1,hW1⟩:∃ W1,W1=w.alloc (.cells #[.slice io I.length ic,.slice po pl pc,.slice eo el ec,.slice ro rl rc,.iface 121 v,.int .i64 node] 180):=⟨_,rfl⟩
 have ka:Same0 w W1:=by rw [hW1];exact (Kept.refl _ w).alloc _
 have hbx:W1.heap[w.heap.size]? = some (.cells #[.slice io I.length ic,.slice po pl pc,.slice eo el ec,.slice ro rl rc,.iface 121 v,.int .i64 node] 180 (0,0)):=by rw [hW1];exact heap_alloc_new _ _
 have x0:=cellAt hbx 0
 simp only [List.getElem?_toArray,List.getElem?_cons_zero] at x0
 have hI1:=hI.same ka
 clear hI hbx
 go_enter Tryz.func159,Tryz.ntmps159
 go_upto_region 1 with fail
 rw [← hW1]
 clear hW1
 go_loop [2] (fun s2=>∃ k:Nat,k≤I.length∧s2=.int .i64 (k:Int)∧Hid (caseF I s a=caseF I s k)) (fun s2=>I.length-(intOf s2).toNat)
 case atStart=>exact ⟨a,ha,rfl,rfl⟩
 case round=>
  clear ha
  obtain ⟨k,hk,rfl,hF⟩:=hrel
  by_cases hlt:k<I.length
  ·obtain ⟨b,off,rfl,hb,c0,c1,c2⟩:=hI1.get hlt
   have i1:(0:Int)≤(k:Int):=by omega
   have i2:(k:Int)<(I.length:Int):=by omega
   by_cases ho:I[k].1=2
   ·rw [ho] at c0
    by_cases hs:I[k].2.1=s
    ·have H:Hid (caseF I s a=(k,true)):=by rw [hF.out];show _=_;rw [caseF_step hlt,if_pos ho,if_pos hs]
     rw [hs] at c1
     clear hF ho hs
     go_wp2_with fail
     go_ret2
     exact ⟨by rw [H.out];rfl,ka⟩
    ·have H:Hid (caseF I s a=caseF I s (k+1)):=by rw [hF.out];show _=_;rw [caseF_step hlt,if_pos ho,if_neg hs]
     have hs' : (I[k].2.1 == s)=false:=by simpa using hs
     generalize I[k].2.1=z at *
     clear hF ho hs
     go_wp2_with fail
     exact ⟨⟨k+1,by omega,by go_num,H⟩,by simp [intOf];omega⟩
   ·have H:Hid (caseF I s a=(k,false)):=by rw [hF.out];show _=_;rw [caseF_step hlt,if_neg ho]
    have ho' : (I[k].1 == 2)=false:=by simpa using ho
    generalize I[k].1=z at *
    clear hF ho
    go_wp2_with fail
    go_ret2
    exact ⟨by rw [H.out];rfl,ka⟩
  ·have H:Hid (caseF I s a=(k,false)):=by rw [hF.out];exact caseF_end (by omega)
   clear hF
   go_wp2_with fail
   go_ret2
   exact ⟨by rw [H.out];rfl,ka⟩
set_option maxHeartbeats 4000000 in
theorem sameIns_any {w:World} {io jo:Option Addr} {I:List I3} (hI:InsAt w io I) (hJ:InsAt w jo I) (hl:I.length≤140737488355328) (ic jc:Nat) :
  Calls Tryz.prog 46 #[.slice io I.length ic,.slice jo I.length jc] w fun e w' => e=.returned (.bool true)∧Same0 w w' := by
 go_enter Tryz.func46,Tryz.ntmps46
 go_upto_region 4 with fail
 go_loopw [5] (fun s5 wr=>∃ k:Nat,k≤I.length∧s5=.int .i64 (k:Int)∧Same0 w wr) (fun s5 _=>I.length-(intOf s5).toNat)
 case atStart=>exact ⟨0,Nat.zero_le _,rfl,Kept.refl _ _⟩
 case round=>
  obtain ⟨k,hk,rfl,hs⟩:=hrel
  by_cases hlt:k<I.length
  ·obtain ⟨b,off,rfl,hb,c0,c1,c2⟩:=(hI.same hs).get hlt
   obtain ⟨b', off', rfl,hb', d0,d1,d2⟩:=(hJ.same hs).get hlt
   have i1:(0:Int)≤(k:Int):=by omega
   have i2:(k:Int)<(I.length:Int):=by omega
   generalize I[k].1=x at *
   generalize I[k].2.1=y at *
   generalize I[k].2.2=z at *
   go_upto_region 6 with fail
   go_quiet (fail)
   go_wp2_with fail
   go_roundw
   case rel=>first | exact ⟨k+1,by omega,by go_num,Kept.drewN hs _⟩ | ((repeat apply Exists.intro);exact ⟨⟨k+1,by omega,by go_num,Kept.drewN hs _⟩,rfl⟩)
   case measure=>simp [intOf];omega
  ·go_wp2_with fail
   go_ret
   exact ⟨rfl,hs⟩
end Go.Proofs.YtjahpnbijefncaaGreat
