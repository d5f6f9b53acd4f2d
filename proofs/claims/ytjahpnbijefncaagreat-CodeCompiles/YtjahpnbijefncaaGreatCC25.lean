import Derived.WalkKit
import Derived.Test.YtjahpnbijefncaaGreatCC24
namespace Go.Proofs.YtjahpnbijefncaaGreat
set_option maxRecDepth 100000
set_option linter.unusedVariables false
set_option maxHeartbeats 16000000
section
open Go.RowKit
attribute [local go_sem ↓] Go.wp_at_zero Go.wp_at_succ
theorem Zml {w0 W:World} {ops:Array Oper} {rest:List Oper} {o:Oper} {a:Act} {Q:Exit->Act->World->Prop} (hgd:o.guard=none) (s x:Operand)
  (ho:o.op=.call { callee:=.builtin .append,args:=#[s,x],argTypes:=#[33,33] })
  (base N:Nat) (vs:List Value) (v:Value) (hs:a.eval s=v) (hW:Za w0 W) (hr:w0.ownsRow base 89 5 v N vs) (A C D F G:Value) (q:Nat) (hx:a.eval x=.slice (some ⟨q,0,none⟩) 1 1) (hq:W.heap[q]? = some (.cells #[A,C,D,F,G] 89 (0,0))) (hA:A.oneCell' = true) (hC:C.oneCell' = true) (hD:D.oneCell' = true) (hF:F.oneCell' = true) (hG:G.oneCell' = true) (hb:base<=w0.heap.size) (hsz:N<=1000)
  (h:∀ g cap w', w'.ownsRow base 89 5 (.slice (some ⟨g,0,none⟩) (N+1) cap) (N+1) (vs ++ [A,C,D,F,G])->Zc (λ k=>v.ownBlock=some k) w0 w' -> (v.ownBlock=some g∨w0.heap.size<=g)->wpList Tryz.prog ops Q rest (a.put o.dst (.slice (some ⟨g,0,none⟩) (N+1) cap)) w') :
  wpList Tryz.prog ops Q (o :: rest) a W:=by
 obtain ⟨i,hi,hz0,hz1,hz2⟩:=info_parts Zlv;refine wpList_append_lies _ hgd s x 33 ho base 89 i _ 5 72 Tryz.underlying33 hi hz0 hz1 hz2 rfl (by decide) v N vs hs (hW.row hr (λ _ _ f=>f)) ⟨q,0,none⟩ 1 1 [A,C,D,F,G] hx rfl (World.news_of_block (cs:=#[A,C,D,F,G]) (t:=89) (fr:=(0,0)) hq) (by intro u hu;simp at hu;rcases hu with rfl | rfl | rfl | rfl | rfl <;> assumption) (by omega) (by unfold maxLen;omega) (by omega) (Nat.le_trans hb hW.size) W.heap.size rfl ?_;intro g cap w' hown hgrow hat hlt;exact h g cap w' hown (Zc.grown (Zc.mono hW (λ _ _ f=>f.elim)) hgrow (λ _ e _=>e)) (hat.imp id (λ e=>by have:=hW.size;omega))
def J3 {n:Nat} (w:World) (r:Except Int (Tr n)) (e:Ending) (w' : World):Prop:=
 match r with
 | .ok t=>∃ v,e=.returned (.tuple #[v,.int .i64 (-1)])∧CsB (λ b=>w.heap.size<=b) w' n v t∧Za w w'
 | .error z=>e=.returned (.tuple #[Ki,.int .i64 z])∧0<=z∧Za w w'
def Zul (L:List Sym) (R:List Ru) (n:Nat):Prop:=∀ (w:World) (rv:Value) (mo tn so:Option Addr) (tc:Nat) (t:List Int) (rows:List Rw),NdD w L R n rv mo tn so tc t rows->∀ mc sc:Nat,
 Calls Tryz.prog 42 #[rv,.slice mo R.length mc,.slice tn t.length tc,.slice so rows.length sc] w (J3 w (Xf L n (vpS L [] t) rows))
theorem Zao {w:World} {x0 x1 x2 x3:Value} (ww:World) (hk:Za (w.alloc Z1) ww):((((((ww.setCell ⟨w.heap.size,0,none⟩ x0).setCell ⟨w.heap.size,1,none⟩ x1).setCell ⟨w.heap.size,2,none⟩ x2).setCell ⟨w.heap.size,3,none⟩ x3).cell? ⟨w.heap.size,0,none⟩=some x0)∧((((ww.setCell ⟨w.heap.size,0,none⟩ x0).setCell ⟨w.heap.size,1,none⟩ x1).setCell ⟨w.heap.size,2,none⟩ x2).setCell ⟨w.heap.size,3,none⟩ x3).cell? ⟨w.heap.size,1,none⟩=some x1∧((((ww.setCell ⟨w.heap.size,0,none⟩ x0).setCell ⟨w.heap.size,1,none⟩ x1).setCell ⟨w.heap.size,2,none⟩ x2).setCell ⟨w.heap.size,3,none⟩ x3).cell? ⟨w.heap.size,2,none⟩=some x2∧((((ww.setCell ⟨w.heap.size,0,none⟩ x0).setCell ⟨w.heap.size,1,none⟩ x1).setCell ⟨w.heap.size,2,none⟩ x2).setCell ⟨w.heap.size,3,none⟩ x3).cell? ⟨w.heap.size,3,none⟩=some x3)∧Zc (λ q=>q=w.heap.size) ww ((((ww.setCell ⟨w.heap.size,0,none⟩ x0).setCell ⟨w.heap.size,1,none⟩ x1).setCell ⟨w.heap.size,2,none⟩ x2).setCell ⟨w.heap.size,3,none⟩ x3)∧Za w ((((ww.setCell ⟨w.heap.size,0,none⟩ x0).setCell ⟨w.heap.size,1,none⟩ x1).setCell ⟨w.heap.size,2,none⟩ x2).setCell ⟨w.heap.size,3,none⟩ x3):=by
 have rs:ww.heap[w.heap.size]? = some (.cells #[.int .i64 0,.int .i64 0,.slice none 0 0,.slice none 0 0] 35 (0,0)):=hk.at0 (heap_alloc_new w _);have s3:=Zs (Zs (Zs (Zs rs 0 x0) 1 x1) 2 x2) 3 x3;have k1:=Zc.setCell (p:=⟨w.heap.size,0,none⟩) (Zc.refl (λ q=>q=w.heap.size) ww) (λ _=>rfl) x0;have k2:=Zc.setCell (p:=⟨w.heap.size,1,none⟩) k1 (λ _=>rfl) x1;have k3:=Zc.setCell (p:=⟨w.heap.size,2,none⟩) k2 (λ _=>rfl) x2;have k4:=Zc.setCell (p:=⟨w.heap.size,3,none⟩) k3 (λ _=>rfl) x3;have ka:Za w (w.alloc Z1):=(Zc.refl _ w).alloc _;exact ⟨⟨Zb s3 0,Zb s3 1,Zb s3 2,Zb s3 3⟩,k4,Zc.trans (ka.trans' hk) k4 (λ i hi e=>by have e' : i=w.heap.size:=e;omega)⟩
theorem Jz {w:World} (ww:World) (hk:Za (w.alloc Z1) ww):(ww.cell? ⟨w.heap.size,0,none⟩=some (.int .i64 0)∧ww.cell? ⟨w.heap.size,1,none⟩=some (.int .i64 0)∧ww.cell? ⟨w.heap.size,2,none⟩=some (.slice none 0 0)∧ww.cell? ⟨w.heap.size,3,none⟩=some (.slice none 0 0))∧ww.frozen? ⟨w.heap.size,0,none⟩=false∧ww.frozen? ⟨w.heap.size,1,none⟩=false∧ww.frozen? ⟨w.heap.size,2,none⟩=false∧ww.frozen? ⟨w.heap.size,3,none⟩=false:=by
 have rs:ww.heap[w.heap.size]? = some (.cells #[.int .i64 0,.int .i64 0,.slice none 0 0,.slice none 0 0] 35 (0,0)):=hk.at0 (heap_alloc_new w _);exact ⟨⟨Zb rs 0,Zb rs 1,Zb rs 2,Zb rs 3⟩,Zd rs 0,Zd rs 1,Zd rs 2,Zd rs 3⟩
theorem Zpd {L:List Sym} {R:List Ru} {n:Nat} {w:World} {rv:Value} {mo tn so:Option Addr} {tc:Nat} {t:List Int} (mc sc:Nat) (hrv:∃ ro rc,rv=.slice ro L.length rc) :
  Calls Tryz.prog 42 #[rv,.slice mo R.length mc,.slice tn t.length tc,.slice so 0 sc] w (@J3 (n+1) w (.ok (3,0,[],[]))):=by
 obtain ⟨ro,rc,rfl⟩:=hrv;obtain ⟨⟨r0,r1,r2,r3⟩,f0,f1,f2,f3⟩:=Jz (w.alloc Z1) (Zc.refl _ _)
 go_enter Tryz.func42,Tryz.ntmps42
 go_wp2;exact bodyPost_ret (v:=.tuple #[.agg #[.int .i64 3,.int .i64 0,.slice none 0 0,.slice none 0 0],.int .i64 (-1)]) (by simp [results,Tryz.results42,go_sem]) rfl ⟨_,rfl,Zgh _ _ _ _ _,(Zc.refl _ w).alloc _⟩
theorem Zfk {w:World} {L:List Sym} {R:List Ru} {n:Nat} {rv:Value} {mo tn so:Option Addr} {tc:Nat} {t:List Int} {rows:List Rw} (h:NdD w L R n rv mo tn so tc t rows) (hne:rows≠[]) (hp:Yw rows (vpS L [] t).length=none) (mc sc:Nat) :
  Calls Tryz.prog 86 #[rv,.slice mo R.length mc,.slice tn t.length tc,.slice so rows.length sc] w λ e w' => e=.returned (.int .i64 (-1))∧Za w w' := by
 refine (Zfn h (h.dn.small h.nk hne) mc sc).mono ?_;rintro e w' ⟨z,rfl,hz,hk⟩
 rcases hz.out with ⟨rfl,_⟩ | ⟨p,_,_,_,hq⟩
 ·exact ⟨rfl,hk⟩
 ·rw [hp] at hq;cases hq
theorem Zf5 {rows:List Rw} (h:0<rows.length):rows.headD (0,[],[])=rows[0]:=by
 cases rows with
 | nil=>simp at h
 | cons x r=>rfl
theorem Zq2 {L:List Sym} {R:List Ru} {n:Nat} {w:World} {rv:Value} {mo tn so:Option Addr} {tc:Nat} {t:List Int} {rows:List Rw} (h:NdD w L R (n+1) rv mo tn so tc t rows) (h1:rows.length=1) (hp:Yw rows (vpS L [] t).length=none) (mc sc:Nat) :
  Calls Tryz.prog 42 #[rv,.slice mo R.length mc,.slice tn t.length tc,.slice so rows.length sc] w (@J3 (n+1) w (.ok (1,(rows.headD (0,[],[])).1,[],[]))):=by
 have hne:rows≠[]:=λ e=>by rw [e] at h1;simp at h1
 have ka:Za w (w.alloc Z1):=(Zc.refl _ w).alloc _;have CP:=Zfk (h.same ka) hne hp mc sc;obtain ⟨ro,rc,rfl⟩:=Zf h.rl.1;have hl0:0<rows.length:=by omega
 have hl0' : 0<(rows.map (·.1)).length:=by simpa using hl0
 obtain ⟨sb,soff,rfl,hsb,hsc⟩:=h.si.get hl0'
 have HS:Hid (∀ ww,Za (w.alloc Z1) ww->ww.cell? ⟨sb,soff,none⟩=some (.int .i64 (rows.headD (0,[],[])).1)):=λ ww hk=>by
  have:=((ka.trans' hk).cell (p:=⟨sb,soff+0,none⟩) hsb (λ f=>f)).trans hsc;rw [Zf5 hl0]
  simpa using this
 have i1:(0:Int)<(rows.length:Int):=by omega
 have e0:((rows.length:Int) == 0)=false:=by rw [h1];rfl
 have e1:((rows.length:Int) == 1)=true:=by rw [h1];rfl
 obtain ⟨W1,hW1⟩:∃ W1,W1=w.alloc Z1:=⟨_,rfl⟩;have HW:Hid (W1=w.alloc Z1):=hW1;rw [<- hW1] at CP HS;clear h hp hsc hl0' hl0 hne ka;generalize rows.length=N at *;generalize (rows.headD (0,[],[])).1=z at *
 go_enter Tryz.func42,Tryz.ntmps42
 go_upto_region 3 with fail
 rw [<- hW1];clear hW1 h1
 go_upto_region 5 with (first | (go_at_call 86;refine CP.mono ?_;rintro e w2 ⟨rfl,k2⟩))
 have k2' : Za (w.alloc Z1) w2:=by rw [<- HW.out];exact k2
 obtain ⟨⟨r0,r1,r2,r3⟩,f0,f1,f2,f3⟩:=Jz w2 k2';have d0:=HS.out w2 k2;obtain ⟨⟨g0,g1,g2,g3⟩,kk,ks⟩:=Zao (w:=w) (x0:=.int .i64 1) (x1:=.int .i64 z) (x2:=.slice none 0 0) (x3:=.slice none 0 0) w2 k2';have GG:Hid (_∧_∧_∧_):=⟨g0,g1,g2,g3⟩;have KS:Hid (Za _ _):=ks;clear g0 g1 g2 g3 kk ks CP;go_wp2;obtain ⟨g0,g1,g2,g3⟩:=GG.out;exact bodyPost_ret (v:=.tuple #[.agg #[.int .i64 1,.int .i64 z,.slice none 0 0,.slice none 0 0],.int .i64 (-1)]) (by simp [results,Tryz.results42,go_sem,g0,g1,g2,g3]) rfl ⟨_,rfl,Zgh _ _ _ _ _,KS.out⟩
theorem Zpg {L:List Sym} {R:List Ru} {n:Nat} {w:World} {rv:Value} {mo tn so:Option Addr} {tc:Nat} {t:List Int} {rows:List Rw} (h:NdD w L R (n+1) rv mo tn so tc t rows) (h0:¬ rows.length=0) (h1:¬ rows.length=1) (hp:Yw rows (vpS L [] t).length=none) (mc sc:Nat) :
  Calls Tryz.prog 42 #[rv,.slice mo R.length mc,.slice tn t.length tc,.slice so rows.length sc] w (@J3 (n+1) w (.error (rows.headD (0,[],[])).1)):=by
 have hne:rows≠[]:=λ e=>by rw [e] at h0;simp at h0
 have ka:Za w (w.alloc Z1):=(Zc.refl _ w).alloc _;have CP:=Zfk (h.same ka) hne hp mc sc;obtain ⟨ro,rc,rfl⟩:=Zf h.rl.1;have hl0:0<rows.length:=by omega
 have hl0' : 0<(rows.map (·.1)).length:=by simpa using hl0
 obtain ⟨sb,soff,rfl,hsb,hsc⟩:=h.si.get hl0'
 have HS:Hid (∀ ww,Za (w.alloc Z1) ww->ww.cell? ⟨sb,soff,none⟩=some (.int .i64 (rows.headD (0,[],[])).1)):=λ ww hk=>by
  have:=((ka.trans' hk).cell (p:=⟨sb,soff+0,none⟩) hsb (λ f=>f)).trans hsc;rw [Zf5 hl0]
  simpa using this
 have HZ:Hid (0<=(rows.headD (0,[],[])).1):=by
  obtain ⟨j,_,ej,_⟩:=h.dn.row _ (List.getElem_mem hl0);show 0<=_;rw [Zf5 hl0,ej];omega
 have i1:(0:Int)<(rows.length:Int):=by omega
 have e0:((rows.length:Int) == 0)=false:=by simp;omega
 have e1:((rows.length:Int) == 1)=false:=by simp;omega
 obtain ⟨W1,hW1⟩:∃ W1,W1=w.alloc Z1:=⟨_,rfl⟩;have HW:Hid (W1=w.alloc Z1):=hW1;rw [<- hW1] at CP HS;clear h hp hsc hl0' hl0 hne ka h0 h1;generalize rows.length=N at *;generalize (rows.headD (0,[],[])).1=z at *
 go_enter Tryz.func42,Tryz.ntmps42
 go_upto_region 3 with fail
 rw [<- hW1];clear hW1
 go_upto_region 7 with (first | (go_at_call 86;refine CP.mono ?_;rintro e w2 ⟨rfl,k2⟩))
 have kd:Za W1 w2.drew:=k2.trans' ((Zc.refl _ _).drew);have k2' : Za (w.alloc Z1) w2.drew:=by rw [<- HW.out];exact kd
 obtain ⟨⟨r0,r1,r2,r3⟩,f0,f1,f2,f3⟩:=Jz w2.drew k2';have d0:=HS.out w2.drew kd;have ks:=(Zao (w:=w) (x0:=.int .i64 0) (x1:=.int .i64 0) (x2:=.slice none 0 0) (x3:=.slice none 0 0) w2.drew k2').2.2;have KS:Hid (Za w _):=ks;clear ks CP;have i2:0<N:=by omega
 have k3' : Za (w.alloc Z1) w2:=by rw [<- HW.out];exact k2
 obtain ⟨⟨s0,s1,s2,s3⟩,t0,t1,t2,t3⟩:=Jz w2 k3';have d1:=HS.out w2 k2;have rs:w2.heap[w.heap.size]? = some (.cells #[.int .i64 0,.int .i64 0,.slice none 0 0,.slice none 0 0] 35 (0,0)):=k3'.at0 (heap_alloc_new w _);have q0:=Zs rs 0 (.int .i64 0);have q1:=Zs q0 1 (.int .i64 0);have q2:=Zs q1 2 (.slice none 0 0);have q3:=Zs q2 3 (.slice none 0 0);have GG:Hid (_∧_∧_∧_):=⟨Zb q0 0,Zb q1 1,Zb q2 2,Zb q3 3⟩;clear rs q0 q1 q2 q3
 go_region
 go_wp2;obtain ⟨g0,g1,g2,g3⟩:=GG.out;exact bodyPost_ret (v:=.tuple #[Ki,.int .i64 z]) (by simp [results,Tryz.results42,go_sem,g0,g1,g2,g3]) rfl ⟨rfl,HZ.out,KS.out⟩
theorem Zkb {rows:List Rw}:(rows.map (·.1)).length=rows.length:=List.length_map _
theorem Zlx (L:List Sym) (c:Nat) (rows:List Rw):(rows.map (Vj L c)).map (·.1)=rows.map (·.1):=by
 rw [List.map_map];rfl
theorem Zpj {n:Nat} {L:List Sym} {P:List (List Int)} {R:List Rw} {c k:Nat} (h:¬ 0<(Yc R c (k:Int)).length) {l:List (Int × Tr n)} (hK:Yp L n P R c k=.ok l):Yp L n P R c (k+1)=.ok l:=by
 unfold Yp at hK ⊢;rw [Zbr,hK];simp only [h,decide_false,Bool.false_eq_true,if_false]
theorem Zpx {n:Nat} {L:List Sym} {P:List (List Int)} {R:List Rw} {c k:Nat} (h:0<(Yc R c (k:Int)).length) {l:List (Int × Tr n)} (hK:Yp L n P R c k=.ok l):Yp L n P R c (k+1)=(match Xf L n (Yu L P c k) ((Yc R c (k:Int)).map (Vj L c)) with | .error e=>.error e | .ok t=>.ok (l ++ [((k:Int),t)])):=by
 unfold Yp at hK ⊢;rw [Zbr,hK];simp only [h,decide_true,if_true];cases Xf L n (Yu L P c k) ((Yc R c (k:Int)).map (Vj L c)) <;> rfl
theorem Zr5 {n:Nat} {w2 wr:World} {kb:Nat} {lo:Option Addr} {lc:Nat} {l:List (Int × Tr n)} {us:List Value} {x2:Value} {k:Nat} {t:Tr n} (hN:wr.heap[kb]? = some (.cells #[.int .i64 2,.int .i64 0,x2,.slice lo l.length lc] 35 (0,0))) (hr:wr.ownsRow (kb+1) 89 5 (.slice lo l.length lc) l.length us) (hus:Yy (λ b=>kb<b∧(Value.slice lo l.length lc).ownBlock≠some b) wr n us l) (hw:Za w2 wr) (hz2:w2.heap.size<=kb)
  {w4 w5:World} {c0 c1 c2 c3:Value} {g cap:Nat} {w11:World} (k4:Za wr w4) (k5:Za w4 w5) (hcs:CsB (λ b=>w4.heap.size<=b) w5 n (.agg #[c0,c1,c2,c3]) t) (r11:w11.ownsRow (kb+1) 89 5 (.slice (some ⟨g,0,none⟩) (l.length+1) cap) (l.length+1) (us ++ [.int .i64 (k:Int),c0,c1,c2,c3])) (k11:Zc (λ q=>(Value.slice lo l.length lc).ownBlock=some q) w5 w11) (hat:(Value.slice lo l.length lc).ownBlock=some g∨w5.heap.size<=g) :
  (w11.cell? ⟨kb,3,none⟩=some (.slice lo l.length lc)∧w11.frozen? ⟨kb,3,none⟩=false)∧((w11.setCell ⟨kb,3,none⟩ (.slice (some ⟨g,0,none⟩) (l.length+1) cap)).heap[kb]? = some (.cells #[.int .i64 2,.int .i64 0,x2,.slice (some ⟨g,0,none⟩) (l.length+1) cap] 35 (0,0)))∧((w11.setCell ⟨kb,3,none⟩ (.slice (some ⟨g,0,none⟩) (l.length+1) cap)).ownsRow (kb+1) 89 5 (.slice (some ⟨g,0,none⟩) (l.length+1) cap) (l ++ [((k:Int),t)]).length (us ++ [.int .i64 (k:Int),c0,c1,c2,c3]))∧(Yy (λ b=>kb<b∧(Value.slice (some ⟨g,0,none⟩) (l.length+1) cap).ownBlock≠some b) (w11.setCell ⟨kb,3,none⟩ (.slice (some ⟨g,0,none⟩) (l.length+1) cap)) n (us ++ [.int .i64 (k:Int),c0,c1,c2,c3]) (l ++ [((k:Int),t)]))∧Za w2 (w11.setCell ⟨kb,3,none⟩ (.slice (some ⟨g,0,none⟩) (l.length+1) cap)):=by
 have hkr:kb<wr.heap.size:=Zi hN;have kr5:Za wr w5:=k4.trans' k5;have hr5:=kr5.row hr (λ _ _ f=>f);have n5:=kr5.at0 hN
 have nk:¬ (Value.slice lo l.length lc).ownBlock=some kb:=λ e=>by
  obtain ⟨cu,h5⟩:=Yj hr5 e;rw [n5] at h5;cases h5
 have n11:=k11.at n5 nk;have ks:Zc (λ q=>q=kb) w11 (w11.setCell ⟨kb,3,none⟩ (.slice (some ⟨g,0,none⟩) (l.length+1) cap)):=Zc.setCell (p:=⟨kb,3,none⟩) (Zc.refl (λ q=>q=kb) w11) (λ _=>rfl) _;have z4:=k4.size;have z5:=k5.size
 have hK1:Yy (λ b=>kb<b∧(Value.slice lo l.length lc).ownBlock≠some b∧b<w5.heap.size) w5 n us l:=by
  have:=hus.mono (B' := λ b=>kb<b∧(Value.slice lo l.length lc).ownBlock≠some b∧b<w5.heap.size) (λ b hb q=>⟨q.1,q.2,by omega⟩);exact this.kept kr5 (λ _ _ f=>f)
 have hC1:CsB (λ b=>kb<b∧(Value.slice lo l.length lc).ownBlock≠some b∧b<w5.heap.size) w5 n (.agg #[c0,c1,c2,c3]) t:=CsB.mono (λ b hb q=>by have q' : w4.heap.size<=b:=q;exact ⟨by omega,λ e=>by have:=(hr.lt b e).2;omega,hb⟩) hcs;refine ⟨⟨Zb n11 3,Zd n11 3⟩,Zs n11 3 _,?_,?_,?_⟩
 ·rw [List.length_append]
  exact ks.row r11 (λ q e f=>by
   obtain ⟨cu,h5⟩:=Yj r11 e;subst f
   rw [n11] at h5;cases h5)
 ·have a1:=(hK1.snoc (s:=(k:Int)) hC1).kept k11 (λ b q e=>q.2.1 e)
  have a2:=a1.kept ks (λ b q e=>by have:=q.1;have e' : b=kb:=e;omega)
  exact a2.mono (λ b hb q=>⟨q.1,λ e=>by
   simp only [Value.ownBlock,Option.some.injEq] at e;subst e
   rcases hat with e | e
   ·exact q.2.1 e
   ·have:=q.2.2;omega⟩)
 ·refine Zc.trans (Zc.trans (hw.trans' kr5) k11 (λ i hi e=>?_)) ks (λ i hi e=>by have e' : i=kb:=e;omega)
  have:=(hr5.lt i e).1;omega
theorem Zjd {L:List Sym} {R:List Ru} {n:Nat} (IH:Zul L R n) {w:World} {rv:Value} {mo tn so:Option Addr} {tc:Nat} {t:List Int} {rows:List Rw} (h:NdD w L R (n+1) rv mo tn so tc t rows) (h0:¬ rows.length=0) {c:Nat} (hpart:Yw rows (vpS L [] t).length=some c) (mc sc:Nat) :
  Calls Tryz.prog 42 #[rv,.slice mo R.length mc,.slice tn t.length tc,.slice so rows.length sc] w (J3 w (BrF L n (vpS L [] t) rows c)):=by
 have hne:rows≠[]:=λ e=>by rw [e] at h0;simp at h0
 have hm:t.length<=2000:=h.dn.small h.nk hne;have hL64:=h.rl.2.2.2;have hArs:=h.rl.2.2.1;have hle:=h.nk.le;have hRle:=h.le;have hcP:=(Zaa hpart).1;have ka:Za w (w.alloc Z1):=(Zc.refl _ w).alloc _;obtain ⟨ro,rcap,hrv⟩:=Zf h.rl.1
 have CP:Calls Tryz.prog 86 #[rv,.slice mo R.length mc,.slice tn t.length tc,.slice so rows.length sc] (w.alloc Z1) λ e w' => ∃ p:Nat,e=.returned (.int .i64 (p:Int))∧Hid (∃ hp:p<t.length,t[p]<0∧Vp L t p=c)∧Za (w.alloc Z1) w' := by
  refine (Zfn (h.same ka) hm mc sc).mono ?_;rintro e w' ⟨z,rfl,hz,hk⟩
  rcases hz.out with ⟨_,hq⟩ | ⟨p,rfl,hp,hv,hq⟩
  ·rw [hpart] at hq;cases hq
  ·rw [hpart] at hq
   cases hq
   exact ⟨p,rfl,⟨hp,hv,rfl⟩,hk⟩
 have HH:Hid (∀ ww,Za (w.alloc Z1) ww->NdD ww L R (n+1) rv mo tn so tc t rows):=λ ww hk=>h.same (ka.trans' hk)
 have PA:Hid (∀ ww (p:Nat) (hp:p<t.length),t[p]<0->Vp L t p=c->Za (w.alloc Z1) ww->Calls Tryz.prog 87 #[rv,.slice tn t.length tc,.int .i64 (p:Int)] ww λ e w' => ∃ po pc,e=.returned (.slice po ((vpS L [] t).getD c []).length pc)∧Hid (Arg w' po ((vpS L [] t).getD c []) pc∧∀ a,po=some a->ww.heap.size<=a.block)∧Za ww w'):=λ ww p hp hv hc hk=>by
  have hg:(vpS L [] t).getD c []=Zx (way L t p):=by rw [<- hc,List.getD,Zji hp hv];rfl
  have hl:(Zx (way L t p)).length<=2000:=by rw [Y6];have:=Vr L t p (by omega);omega
  rw [hg];refine (Zde (cap:=tc) (HH.out ww hk).rl (HH.out ww hk).ti hm h.dn.isT p hp).mono ?_;rintro e w' ⟨v,rfl,r,k⟩;obtain ⟨ao,ac,rfl,a1,a2⟩:=r.arg (by omega);exact ⟨ao,ac,rfl,⟨a1.1,a2⟩,k⟩
 have HA:Hid (∀ ww,Za (w.alloc Z1) ww->∀ (m:Nat) (hm:m<rows.length),∃ sb soff mb moff,so=some ⟨sb,soff,none⟩∧mo=some ⟨mb,moff,none⟩∧∃ j:Nat,j<R.length∧rows[m].1=(j:Int)∧(∀ w6,Za ww w6->w6.cell? ⟨sb,soff+m,none⟩=some (.int .i64 (j:Int)))∧∃ ao al ac,ww.cell? ⟨mb,moff+j * 2,none⟩=some (.slice ao al ac)∧∀ po pc,Zh ww po ((vpS L [] t).getD c [])->Calls Tryz.prog 88 #[rv,.slice ao al ac,.slice po ((vpS L [] t).getD c []).length pc] ww λ e w' => e=.returned (.int .i64 (Xo rows[m] c))∧Za ww w'):=λ ww hk2 m hm2=>by
  obtain ⟨sb,soff,mb,moff,e1,e2,j,hj,e3,HF⟩:=(HH.out ww hk2).at' hm2 hcP;obtain ⟨f1,ao,al,ac,f2,CA⟩:=HF ww (Zc.refl _ _);rw [Y8 hcP];exact ⟨sb,soff,mb,moff,e1,e2,j,hj,e3,λ w6 hk6=>(HF w6 hk6).1,ao,al,ac,f2,CA⟩
 have FR:Hid (∀ ww (k:Nat),k<L.length->Za (w.alloc Z1) ww->Calls Tryz.prog 43 #[rv,.int .i64 (k:Int)] ww λ e w' => ∃ fo fc,e=.returned (.slice fo (Zw L k).length fc)∧Hid (Zh w' fo (Zw L k))∧Za ww w'):=λ ww k hk hs=>(Zfq (HH.out ww hs).rl hk).mono (λ e w' ⟨v,e1,r,k9⟩=>by
  obtain ⟨ao,cap,rfl,ia,_,_⟩:=r.ints
  exact ⟨ao,cap,e1,ia,k9⟩)
 have PU:Hid (∀ ww fo fc (k p:Nat),p<t.length->Za (w.alloc Z1) ww->Zh ww fo (Zw L k)->Calls Tryz.prog 89 #[rv,.slice tn t.length tc,.int .i64 (p:Int),.slice fo (Zw L k).length fc] ww λ e w' => ∃ qo qc,e=.returned (.slice qo (Zco L t p (Zw L k)).length qc)∧Hid (Zh w' qo (Zco L t p (Zw L k))∧(Zco L t p (Zw L k)).length<=qc)∧Za ww w'):=λ ww fo fc k p hp hs hf=>by
  have h6:=Xp hArs (k:Int);have hfl:=Zd4 L k;refine (Ztc (cap:=tc) (ucap:=fc) (HH.out ww hs).rl (HH.out ww hs).ti hm h.cap h.dn.isT p hp hf (by omega) (by omega)).mono ?_;rintro e w' ⟨v,rfl,r,k9⟩;obtain ⟨ao,cap,rfl,ia,ic,_⟩:=r.ints;exact ⟨ao,cap,rfl,⟨ia,ic⟩,k9⟩
 have NO:Hid (∀ ww qo qc wo wc (k p:Nat) (hp:p<t.length),t[p]<0->Vp L t p=c->k<L.length->0<(Yc rows c (k:Int)).length->Za (w.alloc Z1) ww->Zh ww qo (Zco L t p (Zw L k))->(Zco L t p (Zw L k)).length<=qc->Zh ww wo ((Yc rows c (k:Int)).map (·.1))->Calls Tryz.prog 42 #[rv,.slice mo R.length mc,.slice qo (Zco L t p (Zw L k)).length qc,.slice wo (Yc rows c (k:Int)).length wc] ww (J3 ww (Xf L n (Yu L (vpS L [] t) c k) ((Yc rows c (k:Int)).map (Vj L c))))):=λ ww qo qc wo wc k p hp hv hc hk hh hs hq hqc hw=>by
  have hd:=h.dn.kid h.nk hp hv k;have hn:=h.nk.kid (s:=k) hcP hk (Xp hArs _) (λ e=>by rw [e] at hh;simp at hh);rw [hc] at hd;have e1:=Zpl (L:=L) hp hv k;rw [hc] at e1;rw [<- e1] at hn ⊢;have:=IH ww rv mo qo wo qc (Zco L t p (Zw L k)) ((Yc rows c (k:Int)).map (Vj L c)) ⟨(HH.out ww hs).rl,(HH.out ww hs).rs,h.le,hq,hqc,by rw [Zlx];exact hw,hd,hn⟩ mc wc;rw [List.length_map] at this;exact this
 obtain ⟨P,hPe⟩:∃ P,P=vpS L [] t:=⟨_,rfl⟩;rw [<- hPe] at PA HA NO ⊢;have b0:((rows.length:Int) == 0)=false:=by simp;omega
 obtain ⟨W1,hW1⟩:∃ W1,W1=w.alloc Z1:=⟨_,rfl⟩;have HW:Hid (W1=w.alloc Z1):=hW1;have KW:Za w W1:=by rw [hW1];exact ka
 have ezW:W1.heap.size=w.heap.size+1:=by rw [hW1];simp
 have EZW:Hid (W1.heap.size=w.heap.size+1):=ezW;rw [<- hW1] at CP HH PA HA FR PU NO;subst hrv;clear h h0 hpart hne ka hPe IH hcP hm hArs ezW;obtain ⟨Q,hQ⟩:∃ Q,Q=P.getD c []:=⟨_,rfl⟩;have HQE:Hid (Q=P.getD c []):=hQ;rw [<- hQ] at PA HA;clear hQ HH
 go_enter Tryz.func42,Tryz.ntmps42
 go_upto_region 3 with fail
 rw [<- hW1];clear hW1
 go_upto_region 8 with (first | (go_at_call 86;refine CP.mono ?_;rintro e w1 ⟨p,rfl,hpp,k1⟩))
 obtain ⟨hp,hv,hcol⟩:=hpp.out;have PA1:=PA.out w1 p hp hv hcol k1;have HP3:Hid (∃ hp:p<t.length,t[p]<0∧Vp L t p=c):=hpp;clear CP hpp PA hp hv hcol
 go_upto_region 9 with (first | (go_at_call 87;refine PA1.mono ?_;rintro e w2 ⟨qo,qc,rfl,hq2,k2⟩))
 have K2:Za W1 w2:=k1.trans' k2;have hz12:=k1.size;have HQ:Hid (∀ ww,Za w2 ww->Arg ww qo Q qc):=λ ww hk=>hq2.out.1.same hk;have HQB:Hid (∀ a,qo=some a->W1.heap.size<=a.block):=λ a e=>Nat.le_trans hz12 (hq2.out.2 a e);obtain ⟨kb,hkb⟩:∃ kb,kb=w2.heap.size:=⟨_,rfl⟩;have HKB:Hid (kb=w2.heap.size):=hkb;have hN0:Hid ((w2.alloc (.cells #[.int .i64 2,.int .i64 0,.slice qo Q.length qc,.slice none 0 0] 35)).heap[kb]? = some (.cells #[.int .i64 2,.int .i64 0,.slice qo Q.length qc,.slice none 0 0] 35 (0,0))):=by rw [hkb];exact heap_alloc_new w2 _
 have K3:Za w2 (w2.alloc (.cells #[.int .i64 2,.int .i64 0,.slice qo Q.length qc,.slice none 0 0] 35)):=(Zc.refl _ _).alloc _;have hkW:W1.heap.size<=kb:=by rw [hkb];exact K2.size
 clear PA1 hq2 k1 k2 hz12
 go_upto_region 11 with fail
 rw [<- hkb];clear hkb
 go_loopw [13] (λ i wr=>∃ (k:Nat) (lv:Value) (us:List Value) (l:List (Int × Tr n)),k<=L.length∧i=.int .i64 (k:Int)∧Hid (Yp L n P rows c k=.ok l)∧Hid (wr.heap[kb]? = some (.cells #[.int .i64 2,.int .i64 0,.slice qo Q.length qc,lv] 35 (0,0)))∧Hid (wr.ownsRow (kb+1) 89 5 lv l.length us)∧Hid (Yy (λ b=>kb<b∧lv.ownBlock≠some b) wr n us l)∧Za w2 wr) (λ i _=>L.length-(intOf i).toNat)
 case atStart=>exact ⟨0,.slice none 0 0,[],[],Nat.zero_le _,rfl,rfl,hN0,World.ownsRow_nil _ _ _ _,Yy.nil _ _ _,K3⟩
 case round=>
  clear hN0 K3;obtain ⟨k,lv,us,l,hk,rfl,hK,hN,hr,hus,hw⟩:=hrel;obtain ⟨lo,lc,rfl⟩:=Zf hr.out;have hw1:Za W1 wr:=K2.trans' hw;have hll:=Zd0 hK.out
  by_cases hlt:k<L.length
  ·have i1:(0:Int)<=(k:Int):=by omega
   have i2:(k:Int)<(L.length:Int):=by omega
   have R0:Hid (Row wr.heap.size wr (.slice none 0 0) ((Yc (rows.take 0) c (k:Int)).map (·.1))):=World.ownsRow_nil _ _ _ _;have EZ2:Hid (w2.heap.size<=kb):=by show _<=_;rw [HKB.out];exact Nat.le_refl _
   have HN' : Hid (∀ w4,Za wr w4->w4.cell? ⟨kb,3,none⟩=some (.slice lo l.length lc)):=λ w4 hk4=>Zb (hk4.at0 hN.out) 3
   go_upto_region 15 with fail
   obtain ⟨wo,rfl⟩:∃ wo:World,wo=wr:=⟨_,rfl⟩
   go_loopw [14,15] (λ wv kv wr=>∃ m:Nat,m<=rows.length∧kv=.int .i64 (m:Int)∧Hid (Row wo.heap.size wr wv ((Yc (rows.take m) c (k:Int)).map (·.1)))∧Za wo wr) (λ _ kv _=>rows.length-(intOf kv).toNat)
   case atStart=>exact ⟨0,Nat.zero_le _,rfl,R0,Zc.refl _ _⟩
   case round=>
    obtain ⟨m,hml,rfl,hrow,hwi⟩:=hrel;obtain ⟨vo,vc,rfl⟩:=Zf hrow.out;have hwo1:Za W1 wo:=hw1
    by_cases hmlt:m<rows.length
    ·obtain ⟨sb,soff,mb,moff,rfl,rfl,j,hj,ej,f1,ao,al,ac,f2,CA⟩:=HA.out wr (hwo1.trans' hwi) m hmlt
     have HPQ:Zh wr qo Q:=(HQ.out wr (hw.trans' hwi)).at';have C2:=CA qo qc HPQ;have f0:=f1 wr (Zc.refl _ _);have F1:Hid (∀ w6,Za wr w6->w6.cell? ⟨sb,soff+m,none⟩=some (.int .i64 (j:Int))):=f1;have HT:=Ziu (c:=c) (s:=(k:Int)) hmlt;have hl2:=Zgz (rows.take m) c (k:Int);have hl3:(rows.take m).length=m:=by simp;omega
     have hl4:((Yc (rows.take m) c (k:Int)).map (·.1)).length=(Yc (rows.take m) c (k:Int)).length:=List.length_map _;have hl5:((Yc (rows.take m) c (k:Int)).map (·.1)).length<=100:=by omega
     have hb8:(((Yc (rows.take m) c (k:Int)).map (·.1)).length+1) * 8<=140737488355328:=by omega
     have j1:(0:Int)<=(m:Int):=by omega
     have j2:(m:Int)<(rows.length:Int):=by omega
     have j3:(0:Int)<=(j:Int):=by omega
     have j4:(j:Int)<(R.length:Int):=by omega
     have zA:=hwi.size
     by_cases hq:Xo rows[m] c=(k:Int)
     ·rw [if_pos hq] at HT
      have HT2:Hid ((Yc (rows.take (m+1)) c (k:Int)).map (·.1)=(Yc (rows.take m) c (k:Int)).map (·.1) ++ [(j:Int)]):=by
       show _=_;rw [HT,List.map_append,List.map_cons,List.map_nil,ej]
      have hqe:(Xo rows[m] c == (k:Int))=true:=by simpa using hq
      have HRW:Hid (∀ w6,Za wr w6->Row wo.heap.size w6 (.slice vo ((Yc (rows.take m) c (k:Int)).map (·.1)).length vc) ((Yc (rows.take m) c (k:Int)).map (·.1))∧wo.heap.size<=w6.heap.size):=λ w6 hk6=>⟨hk6.row hrow.out (λ _ _ f=>f),by have:=hk6.size;omega⟩;clear HT hl2 hl3 hl4 hq hrow f1 CA HPQ R0 hN hr hus hK HA;generalize Xo rows[m] c=z at *;generalize (Yc (rows.take m) c (k:Int)).map (·.1)=xs at *
      go_wp2_with (first | (go_at_call 88;refine C2.mono ?_;rintro e w5 ⟨rfl,k5⟩;have f5:=F1.out w5 k5;obtain ⟨hr5,z5⟩:=HRW.out w5 k5) | (at_builtin;refine Yo rfl _ _ 32 rfl Tryz.underlying32 wo.heap.size xs _ rfl hr5 (j:Int) rfl z5 hb8 ?_;intro g cap w7 hr7 hk7 hat7))
      go_roundw
      case rel=>exact ⟨m+1,by omega,by go_num,by rw [HT2.out];exact hr7,Zc.trans (hwi.trans' k5) hk7 (λ i hi e=>by have:=(hr5.lt i e).1;omega)⟩
      case measure=>simp [intOf];omega
     ·rw [if_neg hq,List.append_nil] at HT
      have HT2:Hid ((Yc (rows.take (m+1)) c (k:Int)).map (·.1)=(Yc (rows.take m) c (k:Int)).map (·.1)):=by show _=_;rw [HT]
      have hqe:(Xo rows[m] c == (k:Int))=false:=by simpa using hq
      have HRW:Hid (∀ w6,Za wr w6->Row wo.heap.size w6 (.slice vo ((Yc (rows.take m) c (k:Int)).map (·.1)).length vc) ((Yc (rows.take m) c (k:Int)).map (·.1))):=λ w6 hk6=>hk6.row hrow.out (λ _ _ f=>f);clear HT hl2 hl3 hl4 hq hrow f1 CA HPQ R0 hN hr hus hK HA;generalize Xo rows[m] c=z at *;generalize (Yc (rows.take m) c (k:Int)).map (·.1)=xs at *
      go_wp2_with (first | (go_at_call 88;refine C2.mono ?_;rintro e w5 ⟨rfl,k5⟩))
      go_roundw
      case rel=>exact ⟨m+1,by omega,by go_num,by rw [HT2.out];exact HRW.out w5 k5,hwi.trans' k5⟩
      case measure=>simp [intOf];omega
    ·obtain rfl:m=rows.length:=by omega
     have HL:=Zkb (rows:=Yc rows c (k:Int));rw [List.take_length,HL] at hrow ⊢;clear HA R0;have hwr:Za wo wr:=hwi;have hw2:Za w2 wr:=hw.trans' hwr
     by_cases hhas:0<(Yc rows c (k:Int)).length
     ·have hb:(((Yc rows c (k:Int)).length:Int) == 0)=false:=by rw [beq_eq_false_iff_ne];omega
      obtain ⟨hp,hv,hcol⟩:=HP3.out;have FR1:=FR.out wr k hlt (hw1.trans' hwr);have HSK:=Zpx hhas hK.out
      have NO1:Hid (∀ ww qo qc,Za wr ww->Zh ww qo (Zco L t p (Zw L k))->(Zco L t p (Zw L k)).length<=qc->Calls Tryz.prog 42 #[.slice ro L.length rcap,.slice mo R.length mc,.slice qo (Zco L t p (Zw L k)).length qc,.slice vo (Yc rows c (k:Int)).length vc] ww (J3 ww (Xf L n (Yu L P c k) ((Yc rows c (k:Int)).map (Vj L c))))):=λ ww qo qc hs hq hqc=>NO.out ww qo qc vo vc k p hp hv hcol hlt hhas ((hw1.trans' hwr).trans' hs) hq hqc (by
       have hrw:Row wo.heap.size ww (.slice vo (Yc rows c (k:Int)).length vc) ((Yc rows c (k:Int)).map (·.1)):=hs.row hrow.out (λ _ _ f=>f);obtain ⟨ao,cap,e1,ia,_,_⟩:=hrw.ints;rw [HL] at e1;simp only [Value.slice.injEq] at e1;obtain ⟨rfl,_,rfl⟩:=e1
       exact ia)
      have PU1:Hid (∀ ww fo fc,Za wr ww->Zh ww fo (Zw L k)->Calls Tryz.prog 89 #[.slice ro L.length rcap,.slice tn t.length tc,.int .i64 (p:Int),.slice fo (Zw L k).length fc] ww λ e w' => ∃ qo qc,e=.returned (.slice qo (Zco L t p (Zw L k)).length qc)∧Hid (Zh w' qo (Zco L t p (Zw L k))∧(Zco L t p (Zw L k)).length<=qc)∧Za ww w'):=λ ww fo fc hs hf=>PU.out ww fo fc k p hp ((hw1.trans' hwr).trans' hs) hf;clear NO PU FR hp hv hcol HP3 hrow HL;generalize Zw L k=fn at *;generalize Zco L t p fn=pn at *;have HWR:Hid (∀ ww,Za wr ww->Za (w.alloc Z1) ww):=λ ww hk=>by rw [<- HW.out];exact (hw1.trans' hwr).trans' hk
      cases hg:Xf L n (Yu L P c k) ((Yc rows c (k:Int)).map (Vj L c)) with
      | error z=>
       rw [hg] at HSK NO1
       have HE:Hid (BrF L n P rows c=.error z):=by
        show _=_;unfold BrF;rw [Zbp HSK (show k+1<=L.length by omega)]
       have NE:Hid (∀ ww qo qc,Za wr ww->Zh ww qo pn->pn.length<=qc->Calls Tryz.prog 42 #[.slice ro L.length rcap,.slice mo R.length mc,.slice qo pn.length qc,.slice vo (Yc rows c (k:Int)).length vc] ww λ e w' => e=.returned (.tuple #[Ki,.int .i64 z])∧Hid (0<=z)∧Za ww w'):=λ ww qo qc h1 h2 h3=>NO1.out ww qo qc h1 h2 h3;clear NO1 HSK hg hN hr hus hK hhas HN' hw2 hll;generalize (Yc rows c (k:Int)).length=N at *
       go_upto_region 21 with (first
        | (go_at_call 43;refine FR1.mono ?_;rintro e w5 ⟨fo,fc,rfl,hf5,k5⟩;have PU2:=PU1.out w5 fo fc k5 hf5.out)
        | (go_at_call 89;refine PU2.mono ?_;rintro e w6 ⟨po2,pc2,rfl,hq6,k6⟩;have NO2:=NE.out w6 po2 pc2 (k5.trans' k6) hq6.out.1 hq6.out.2)
        | (go_at_call 42;refine NO2.mono ?_;rintro e w7 ⟨rfl,hz7,k7⟩))
       have hz8:=hz7.out;obtain ⟨w8,hw8⟩:∃ w8,w8=w7.alloc Z1:=⟨_,rfl⟩;have k8:Za (w.alloc Z1) w8:=by rw [hw8];exact Zc.alloc (HWR.out w7 ((k5.trans' k6).trans' k7)) _
       rw [<- hw8];obtain ⟨⟨r0,r1,r2,r3⟩,f0,f1,f2,f3⟩:=Jz w8 k8;obtain ⟨⟨g0,g1,g2,g3⟩,kk,ks⟩:=Zao (w:=w) (x0:=.int .i64 0) (x1:=.int .i64 0) (x2:=.slice none 0 0) (x3:=.slice none 0 0) w8 k8;have GG:Hid (_∧_∧_∧_):=⟨g0,g1,g2,g3⟩;have KS:Hid (Za w _):=ks;clear hw8 k8 g0 g1 g2 g3 kk ks FR1 PU2 NO2;go_wp2;obtain ⟨g0,g1,g2,g3⟩:=GG.out;exact bodyPost_ret (v:=.tuple #[Ki,.int .i64 z]) (by simp [results,Tryz.results42,go_sem,g0,g1,g2,g3]) rfl (by rw [HE.out];exact ⟨rfl,hz8,KS.out⟩)
      | ok tt=>
       rw [hg] at HSK NO1;have HS' : Hid (Yp L n P rows c (k+1)=.ok (l ++ [((k:Int),tt)])):=HSK
       have NE:Hid (∀ ww qo qc,Za wr ww->Zh ww qo pn->pn.length<=qc->Calls Tryz.prog 42 #[.slice ro L.length rcap,.slice mo R.length mc,.slice qo pn.length qc,.slice vo (Yc rows c (k:Int)).length vc] ww λ e w' => ∃ tk tr tpo tpl tpc tko tkl tkc,e=.returned (.tuple #[.agg #[.int .i64 tk,.int .i64 tr,.slice tpo tpl tpc,.slice tko tkl tkc],.int .i64 (-1)])∧Hid (CsB (λ b=>ww.heap.size<=b) w' n (.agg #[.int .i64 tk,.int .i64 tr,.slice tpo tpl tpc,.slice tko tkl tkc]) tt)∧Za ww w'):=λ ww qo qc h1 h2 h3=>by
        refine (NO1.out ww qo qc h1 h2 h3).mono ?_;rintro e w' ⟨v,rfl,g1,g2⟩;obtain ⟨tk,tr,tpo,tpl,tpc,tko,tkl,tkc,rfl⟩:=g1.shape;exact ⟨tk,tr,tpo,tpl,tpc,tko,tkl,tkc,rfl,g1,g2⟩
       have FIN:Hid (∀ w4 w5 c0 c1 c2 c3 g cap w11,Za wr w4->Za w4 w5->CsB (λ b=>w4.heap.size<=b) w5 n (.agg #[c0,c1,c2,c3]) tt->w11.ownsRow (kb+1) 89 5 (.slice (some ⟨g,0,none⟩) (l.length+1) cap) (l.length+1) (us ++ [.int .i64 (k:Int),c0,c1,c2,c3])->Zc (λ q=>(Value.slice lo l.length lc).ownBlock=some q) w5 w11->((Value.slice lo l.length lc).ownBlock=some g∨w5.heap.size<=g)->(w11.cell? ⟨kb,3,none⟩=some (.slice lo l.length lc)∧w11.frozen? ⟨kb,3,none⟩=false)∧Hid (∃ us' l', Hid (Yp L n P rows c (k+1)=.ok l')∧Hid ((w11.setCell ⟨kb,3,none⟩ (.slice (some ⟨g,0,none⟩) (l.length+1) cap)).heap[kb]? = some (.cells #[.int .i64 2,.int .i64 0,.slice qo Q.length qc,.slice (some ⟨g,0,none⟩) (l.length+1) cap] 35 (0,0)))∧Hid ((w11.setCell ⟨kb,3,none⟩ (.slice (some ⟨g,0,none⟩) (l.length+1) cap)).ownsRow (kb+1) 89 5 (.slice (some ⟨g,0,none⟩) (l.length+1) cap) l'.length us')∧Hid (Yy (λ b=>kb<b∧(Value.slice (some ⟨g,0,none⟩) (l.length+1) cap).ownBlock≠some b) (w11.setCell ⟨kb,3,none⟩ (.slice (some ⟨g,0,none⟩) (l.length+1) cap)) n us' l')∧Za w2 (w11.setCell ⟨kb,3,none⟩ (.slice (some ⟨g,0,none⟩) (l.length+1) cap)))):=by
        intro w4 w5 c0 c1 c2 c3 g cap w11 k4 k5 hcs r11 k11 hat;obtain ⟨q1,q2,q3,q4,q5⟩:=Zr5 hN.out hr.out hus.out hw EZ2.out (hwr.trans' k4) k5 hcs r11 k11 hat;exact ⟨q1,_,_,HS'.out,q2,q3,q4,q5⟩
       have HRW:Hid (∀ ww,Za wr ww->ww.ownsRow (kb+1) 89 5 (.slice lo l.length lc) l.length us∧kb+1<=ww.heap.size∧ww.cell? ⟨kb,3,none⟩=some (.slice lo l.length lc)):=λ ww hk=>by
        have h9:=hwr.trans' hk;have:=h9.size;have h10:=Zi hN.out;exact ⟨h9.row hr.out (λ _ _ f=>f),by omega,HN'.out ww h9⟩
       have hl1000:l.length<=1000:=by omega
       clear NO1 HSK hg hN hr hus hK hhas HN' hll HS';generalize (Yc rows c (k:Int)).length=N at *
       go_upto_region 21 with (first
        | (go_at_call 43;refine FR1.mono ?_;rintro e w5 ⟨fo,fc,rfl,hf5,k5⟩;have PU2:=PU1.out w5 fo fc k5 hf5.out)
        | (go_at_call 89;refine PU2.mono ?_;rintro e w6 ⟨po2,pc2,rfl,hq6,k6⟩;have NO2:=NE.out w6 po2 pc2 (k5.trans' k6) hq6.out.1 hq6.out.2)
        | (go_at_call 42;refine NO2.mono ?_;rintro e w7 ⟨tk,tr,tpo,tpl,tpc,tko,tkl,tkc,rfl,hcs,k7⟩))
       obtain ⟨w8,hw8⟩:∃ w8,w8=w7.alloc (.cells #[.int .i64 tk,.int .i64 tr,.slice tpo tpl tpc,.slice tko tkl tkc] 35):=⟨_,rfl⟩;have k78:Za w7 w8:=by rw [hw8];exact (Zc.refl _ _).alloc _
       have k8:Za wr w8:=((k5.trans' k6).trans' k7).trans' k78;have b8:w8.heap[w7.heap.size]? = some (.cells #[.int .i64 tk,.int .i64 tr,.slice tpo tpl tpc,.slice tko tkl tkc] 35 (0,0)):=by rw [hw8];exact heap_alloc_new _ _
       rw [<- hw8];have c0:=Zb b8 0;have c1:=Zb b8 1;have c2:=Zb b8 2;have c3:=Zb b8 3;simp only [List.getElem?_toArray,List.getElem?_cons_zero,List.getElem?_cons_succ] at c0 c1 c2 c3;obtain ⟨hr8,hz8,hn8⟩:=HRW.out w8 k8;have HR8:Hid (w8.ownsRow (kb+1) 89 5 (.slice lo l.length lc) l.length us):=hr8;have HC8:Hid (CsB (λ b=>w6.heap.size<=b) w8 n (.agg #[.int .i64 tk,.int .i64 tr,.slice tpo tpl tpc,.slice tko tkl tkc]) tt):=hcs.out.same k78;have K46:Hid (Za wr w6):=k5.trans' k6;have K68:Hid (Za w6 w8):=k7.trans' k78;clear hw8 b8 hr8 hcs FR1 PU2 NO2 k78
       go_wp2_with (first | (at_builtin;refine Zml (w0:=w8) rfl _ _ rfl (kb+1) l.length us (.slice lo l.length lc) rfl ((Zc.refl _ w8).alloc _) HR8.out (.int .i64 (k:Int)) (.int .i64 tk) (.int .i64 tr) (.slice tpo tpl tpc) (.slice tko tkl tkc) w8.heap.size rfl (heap_alloc_new w8 _) rfl rfl rfl rfl rfl hz8 hl1000 ?_;intro g cap w11 r11 k11 hat;obtain ⟨⟨y1,y2⟩,FF⟩:=FIN.out w6 w8 _ _ _ _ g cap w11 K46.out K68.out HC8.out r11 k11 hat))
       go_roundw
       case rel=>
        obtain ⟨us', l', z1,z2,z3,z4,z5⟩:=FF.out;exact ⟨k+1,_,us', l', by omega,by go_num,z1,z2,z3,z4,z5⟩
       case measure=>simp [intOf];omega
     ·have h0:(Yc rows c (k:Int)).length=0:=by omega
      have HK2:Hid (Yp L n P rows c (k+1)=.ok l):=Zpj hhas hK.out;have hN2:Hid (wr.heap[kb]? = some (.cells #[.int .i64 2,.int .i64 0,.slice qo Q.length qc,.slice lo l.length lc] 35 (0,0))):=hwr.at0 hN.out;have hr2:Hid (wr.ownsRow (kb+1) 89 5 (.slice lo l.length lc) l.length us):=hwr.row hr.out (λ _ _ f=>f);have hu2:Hid (Yy (λ b=>kb<b∧(Value.slice lo l.length lc).ownBlock≠some b) wr n us l):=hus.out.kept hwr (λ _ _ f=>f);rw [h0];clear hN hr hus hK hhas hrow HL h0
      go_wp2_with fail
      go_roundw
      case rel=>exact ⟨k+1,_,us,l,by omega,by go_num,HK2,hN2,hr2,hu2,hw2⟩
      case measure=>simp [intOf];omega
  ·obtain rfl:k=L.length:=by omega
   have hwW:Za (w.alloc Z1) wr:=by rw [<- HW.out];exact hw1
   obtain ⟨⟨r0,r1,r2,r3⟩,f0,f1,f2,f3⟩:=Jz wr hwW;obtain ⟨⟨g0,g1,g2,g3⟩,kk,ks⟩:=Zao (w:=w) (x0:=.int .i64 2) (x1:=.int .i64 0) (x2:=.slice qo Q.length qc) (x3:=.slice lo l.length lc) wr hwW;have GG:Hid (_∧_∧_∧_):=⟨g0,g1,g2,g3⟩;have n0:=Zb hN.out 0;have n1:=Zb hN.out 1;have n2:=Zb hN.out 2;have n3:=Zb hN.out 3;simp only [List.getElem?_toArray,List.getElem?_cons_zero,List.getElem?_cons_succ] at n0 n1 n2 n3
   have FIN:Hid (J3 w (BrF L n P rows c) (.returned (.tuple #[.agg #[.int .i64 2,.int .i64 0,.slice qo Q.length qc,.slice lo l.length lc],.int .i64 (-1)])) ((((wr.setCell ⟨w.heap.size,0,none⟩ (.int .i64 2)).setCell ⟨w.heap.size,1,none⟩ (.int .i64 0)).setCell ⟨w.heap.size,2,none⟩ (.slice qo Q.length qc)).setCell ⟨w.heap.size,3,none⟩ (.slice lo l.length lc))):=by
    have hB:BrF L n P rows c=.ok (2,0,Q,l):=by
     have:=hK.out;unfold BrF;rw [this,HQE.out]
    rw [hB];have hz1:=EZW.out;have hcs:=Zh5 (B:=λ b=>W1.heap.size<=b) hr.out (hus.out.mono (λ b hb q=>by have:=q.1;omega)) (λ b e=>by have:=(hr.out.lt b e).1;omega) (HQ.out wr hw) HQB.out 2 0;exact ⟨_,rfl,CsB.mono (λ b hb q=>by have q' : W1.heap.size<=b:=q;show w.heap.size<=b;omega) (CsB.kept kk (λ b q e=>by have q' : W1.heap.size<=b:=q;have e' : b=w.heap.size:=e;omega) hcs),ks⟩
   clear hN hr hus hK g0 g1 g2 g3 kk ks HA NO PU FR;go_wp2;obtain ⟨g0,g1,g2,g3⟩:=GG.out;exact bodyPost_ret (v:=.tuple #[.agg #[.int .i64 2,.int .i64 0,.slice qo Q.length qc,.slice lo l.length lc],.int .i64 (-1)]) (by simp [results,Tryz.results42,go_sem,g0,g1,g2,g3]) rfl FIN.out
theorem Zlf (L:List Sym) (R:List Ru):∀ n,Zul L R n
 | 0=>λ w rv mo tn so tc t rows h=>absurd h.nk.pos (Nat.lt_irrefl 0)
 | n+1=>λ w rv mo tn so tc t rows h mc sc=>by
  by_cases h0:rows.length=0
  ·rw [Jk h0,h0]
   exact Zpd mc sc (Zf h.rl.1)
  ·cases hp:Yw rows (vpS L [] t).length with
   | some c=>
    rw [Vf h0 hp];exact Zjd (Zlf L R n) h h0 hp mc sc
   | none=>
    by_cases h1:rows.length=1
    ·rw [Jn h1 hp]
     exact Zq2 h h1 hp mc sc
    ·rw [Jq h0 h1 hp]
     exact Zpg h h0 h1 hp mc sc
def Zrw (w:World) (v:Value):Prop:=∀ a l c,v=.slice (some a) l c->w.heap.size<=a.block
def Jb (L:List Sym) (R:List Ru) (n:Int) (w:World) (e:Ending) (w' : World):Prop:=
 Za w w' ∧ if Y7 L n=true then
  (match X5 L R n.toNat with
  | .ok t=>∃ v,e=.returned (.tuple #[v,.slice none 0 0])∧CsB (λ b=>w.heap.size<=b) w' 2001 v t
  | .error z=>∃ v,e=.returned (.tuple #[Ki,v])∧Y5 w' v [(81,n),(82,z)]∧Zrw w v)
 else ∃ v,e=.returned (.tuple #[Ki,v])∧Y5 w' v [(80,0)]∧Zrw w v
theorem Zwz {L:List Sym} {f:Int} (h:Y7 L f=true):∃ s:Nat,f=(s:Int)∧s<L.length:=by
 unfold Y7 at h
 by_cases h0:f<0
 ·simp [h0] at h
 ·rw [if_neg h0] at h
  cases hs:L[f.toNat]? with
  | none=>rw [hs] at h;cases h
  | some x=>exact ⟨f.toNat,by omega,(List.getElem?_eq_some_iff.1 hs).1⟩
theorem Zk5 (L:List Sym) (R:List Ru) (s:Nat):(Yq L R s).map (·.1)=ofF (s:Int) 0 R:=by
 unfold Yq;rw [Zlx];unfold Xy;rw [List.map_map];simp [Function.comp_def]
theorem Zu3 (w:World) (a b:Int) (T:TypeId):Y5 (w.alloc (.cells #[.int .i64 a,.int .i64 b] T)) (.slice (some ⟨w.heap.size,0,none⟩) 1 1) [(a,b)]:=
 Zjq w [(a,b)] _ T rfl (λ i hi=>by
  have hi' : i<1:=hi
  match i,hi' with
  | 0,_=>exact ⟨rfl,rfl⟩) 1 rfl
theorem Y5.kept8 {S:Nat->Prop} {w w' : World} {lv:Value} {ws:List (Int × Int)} (h:Y5 w lv ws) (hk:Zc S w w') (hs:∀ b,(∃ l c,lv=.slice (some ⟨b,0,none⟩) l c)->¬ S b):Y5 w' lv ws:=by
 obtain ⟨lo,lc,e,h⟩:=h;refine ⟨lo,lc,e,h.imp id ?_⟩;rintro ⟨b,e2,hb,hc⟩;subst e2;have nb:=hs b ⟨_,_,e⟩;exact ⟨b,rfl,Nat.lt_of_lt_of_le hb hk.size,λ i hi=>⟨(hk.cell (p:=⟨b,i * 2,none⟩) hb nb).trans (hc i hi).1,(hk.cell (p:=⟨b,i * 2+1,none⟩) hb nb).trans (hc i hi).2⟩⟩
theorem Zj8 {w:World} {rv:Value} {L:List Sym} {R:List Ru} {mo:Option Addr} (h:Rl w.heap.size w rv L) (hR:V7 w mo R) (hle:R.length<=100) (hok:∀ x∈R,Ze L x.1=0∧Ze L x.2=0) (mc:Nat) (f:Int) :
  Calls Tryz.prog 9 #[rv,.slice mo R.length mc,.int .i64 f] w (Jb L R f w):=by
 have ka:Za w (w.alloc Z1):=(Zc.refl _ w).alloc _;obtain ⟨ro,rcap,hrv⟩:=Zf h.1;have CD:=Zgn (h.same ka) f;obtain ⟨W1,hW1⟩:∃ W1,W1=w.alloc Z1:=⟨_,rfl⟩;have HW:Hid (W1=w.alloc Z1):=hW1;have HEZ:Hid (W1.heap.size=w.heap.size+1):=by rw [hW1];simp [Hid]
 cases hd:Y7 L f with
 | false=>
  rw [hd] at CD;rw [<- hW1] at CD;have HP:Hid (∀ v w', Za w w' -> Y5 w' v [(80,0)]->Zrw w v->Jb L R f w (.returned (.tuple #[Ki,v])) w'):=λ v w' h1 h2 h3=>⟨h1,by rw [if_neg (by rw [hd];simp)];exact ⟨v,rfl,h2,h3⟩⟩;subst hrv;clear h hR hok hle ka hd;have k2:Za (w.alloc Z1) (W1.alloc (.cells #[.int .i64 80,.int .i64 0] 92)):=by rw [hW1];exact (Zc.refl _ _).alloc _
  obtain ⟨⟨r0,r1,r2,r3⟩,f0,f1,f2,f3⟩:=Jz _ k2;obtain ⟨⟨g0,g1,g2,g3⟩,kk,ks⟩:=Zao (w:=w) (x0:=.int .i64 0) (x1:=.int .i64 0) (x2:=.slice none 0 0) (x3:=.slice none 0 0) _ k2
  have HF:=HP.out _ _ ks ((Zu3 W1 80 0 92).kept8 kk (λ b ⟨l,c,e⟩ e2=>by
   simp only [Value.slice.injEq,Option.some.injEq,Addr.mk.injEq] at e;have e' : b=w.heap.size:=e2;have:=HEZ.out
   omega)) (λ a l c e=>by
   simp only [Value.slice.injEq,Option.some.injEq] at e;obtain ⟨rfl,_⟩:=e;have:=HEZ.out;show w.heap.size<=W1.heap.size
   omega)
  have GG:Hid (_∧_∧_∧_):=⟨g0,g1,g2,g3⟩;have HF2:Hid (Jb _ _ _ _ _ _):=HF;clear g0 g1 g2 g3 kk ks HF k2
  go_enter Tryz.func9,Tryz.ntmps9
  go_upto_region 1 with fail
  rw [<- hW1];clear hW1
  go_wp2_with (first | (go_at_call 41;refine CD.mono ?_;rintro e w1 ⟨rfl,rfl⟩))
  obtain ⟨g0,g1,g2,g3⟩:=GG.out;exact bodyPost_ret (v:=.tuple #[Ki,.slice (some ⟨w1.heap.size,0,none⟩) 1 1]) (by simp [results,Tryz.results9,go_sem,g0,g1,g2,g3]) rfl HF2.out
 | true=>
  obtain ⟨s,rfl,hs⟩:=Zwz hd;have hArs:=h.2.2.1
  have CF:Hid (∀ ww,Za w ww->Calls Tryz.prog 43 #[rv,.int .i64 (s:Int)] ww λ e w' => ∃ fo fc,e=.returned (.slice fo (Zw L s).length fc)∧Hid (Zh w' fo (Zw L s)∧(Zw L s).length<=fc)∧Za ww w'):=λ ww hk=>(Zfq (h.same hk) hs).mono (λ e w' ⟨v,e1,r,k9⟩=>by
   obtain ⟨ao,cap,rfl,ia,ic,_⟩:=r.ints
   exact ⟨ao,cap,e1,⟨ia,ic⟩,k9⟩)
  have CO:Hid (∀ ww,Za w ww->Calls Tryz.prog 44 #[.slice mo R.length mc,.int .i64 (s:Int)] ww λ e w' => ∃ oo oc,e=.returned (.slice oo (Yq L R s).length oc)∧Hid (Zh w' oo ((Yq L R s).map (·.1)))∧Za ww w'):=λ ww hk=>(Zvv (mc:=mc) (hR.same hk) hle (λ x hx=>(Xv (hok x hx)).1.1) (s:Int)).mono (λ e w' ⟨v,e1,r,k9⟩=>by
   obtain ⟨ao,cap,rfl,ia,_,_⟩:=r.ints;have hl:(ofF (s:Int) 0 R).length=(Yq L R s).length:=by rw [<- Zk5 L R s,List.length_map]
   exact ⟨ao,cap,by rw [e1,hl],by rw [Zk5];exact ia,k9⟩)
  have CN:Hid (∀ ww fo fc oo oc,Za w ww->Zh ww fo (Zw L s)->(Zw L s).length<=fc->Zh ww oo ((Yq L R s).map (·.1))->Calls Tryz.prog 42 #[rv,.slice mo R.length mc,.slice fo (Zw L s).length fc,.slice oo (Yq L R s).length oc] ww (J3 ww (X5 L R s))):=λ ww fo fc oo oc hk hf hfc ho=>by
   have hd0:=Zsl hok s;have hn0:=Zjt hArs hle hok hs;rw [<- Zqy] at hn0;have:=Zlf L R 2001 ww rv mo fo oo fc (Zw L s) (Yq L R s) ⟨Ze4 (h.same hk) hk.size,hR.same hk,hle,hf,hfc,ho,hd0,hn0⟩ mc oc;rw [Zqy] at this;exact this
  rw [hd,<- hW1] at CD;have KW:Za w W1:=by rw [hW1];exact ka
  subst hrv;clear h hR ka hArs hok;have HD:Hid (Y7 L (s:Int)=true):=hd;cases hg:X5 L R s with
  | error z=>
   rw [hg] at CN;have CE:Hid (∀ ww fo fc oo oc,Za w ww->Zh ww fo (Zw L s)->(Zw L s).length<=fc->Zh ww oo ((Yq L R s).map (·.1))->Calls Tryz.prog 42 #[.slice ro L.length rcap,.slice mo R.length mc,.slice fo (Zw L s).length fc,.slice oo (Yq L R s).length oc] ww λ e w' => e=.returned (.tuple #[Ki,.int .i64 z])∧Hid (0<=z)∧Za ww w'):=λ ww fo fc oo oc h1 h2 h3 h4=>CN.out ww fo fc oo oc h1 h2 h3 h4;have HP:Hid (∀ v w', Za w w' -> Y5 w' v [(81,(s:Int)),(82,z)]->Zrw w v->Jb L R (s:Int) w (.returned (.tuple #[Ki,v])) w'):=λ v w' h1 h2 h3=>⟨h1,by rw [if_pos HD.out,Int.toNat_natCast,hg];exact ⟨v,rfl,h2,h3⟩⟩;clear CN hg hd hle;generalize Zw L s=fs at *;generalize Yq L R s=rr at *
   go_enter Tryz.func9,Tryz.ntmps9
   go_upto_region 1 with fail
   rw [<- hW1];clear hW1
   go_upto_region 4 with (first | (go_at_call 41;refine CD.mono ?_;rintro e w1 ⟨rfl,rfl⟩))
   have C1:=CF.out w1 KW
   go_upto_region 5 with (first
    | (go_at_call 43;refine C1.mono ?_;rintro e w2 ⟨fo,fc,rfl,hf2,k2⟩;have C2:=CO.out w2 (KW.trans' k2))
    | (go_at_call 44;refine C2.mono ?_;rintro e w3 ⟨oo,oc,rfl,ho3,k3⟩;have C3:=CE.out w3 fo fc oo oc ((KW.trans' k2).trans' k3) (hf2.out.1.same k3) hf2.out.2 ho3.out)
    | (go_at_call 42;refine C3.mono ?_;rintro e w4 ⟨rfl,hz4,k4⟩))
   have hz5:=hz4.out;obtain ⟨w5,hw5⟩:∃ w5,w5=w4.alloc Z1:=⟨_,rfl⟩;have k5:Za (w.alloc Z1) w5:=by rw [hw5,<- HW.out];exact Zc.alloc ((k2.trans' k3).trans' k4) _
   rw [<- hw5];clear hw5 C1 C2 C3 CE CF CO CD hf2 ho3;have k6:Za (w.alloc Z1) (w5.alloc (.cells #[.int .i64 81,.int .i64 (s:Int),.int .i64 82,.int .i64 z] 92)):=Zc.alloc k5 _;obtain ⟨⟨r0,r1,r2,r3⟩,f0,f1,f2,f3⟩:=Jz _ k6;obtain ⟨⟨g0,g1,g2,g3⟩,kk,ks⟩:=Zao (w:=w) (x0:=.int .i64 0) (x1:=.int .i64 0) (x2:=.slice none 0 0) (x3:=.slice none 0 0) _ k6;have z5:=k5.size;have z6:w.heap.size<w5.heap.size:=by simp at z5;omega
   have HF:=HP.out _ _ ks ((Zgy w5 81 (s:Int) 82 z rfl).kept8 kk (λ b ⟨l,c,e⟩ e2=>by
    simp only [Value.slice.injEq,Option.some.injEq,Addr.mk.injEq] at e;have e' : b=w.heap.size:=e2
    omega)) (λ a l c e=>by
    simp only [Value.slice.injEq,Option.some.injEq] at e;obtain ⟨rfl,_⟩:=e;show w.heap.size<=w5.heap.size
    omega)
   have GG:Hid (_∧_∧_∧_):=⟨g0,g1,g2,g3⟩;have HF2:Hid (Jb _ _ _ _ _ _):=HF;clear g0 g1 g2 g3 kk ks HF k5 k6 z5 z6;go_wp2;obtain ⟨g0,g1,g2,g3⟩:=GG.out;exact bodyPost_ret (v:=.tuple #[Ki,.slice (some ⟨w5.heap.size,0,none⟩) 2 2]) (by simp [results,Tryz.results9,go_sem,g0,g1,g2,g3]) rfl HF2.out
  | ok tt=>
   rw [hg] at CN
   have CE:Hid (∀ ww fo fc oo oc,Za w ww->Zh ww fo (Zw L s)->(Zw L s).length<=fc->Zh ww oo ((Yq L R s).map (·.1))->Calls Tryz.prog 42 #[.slice ro L.length rcap,.slice mo R.length mc,.slice fo (Zw L s).length fc,.slice oo (Yq L R s).length oc] ww λ e w' => ∃ tk tr tpo tpl tpc tko tkl tkc,e=.returned (.tuple #[.agg #[.int .i64 tk,.int .i64 tr,.slice tpo tpl tpc,.slice tko tkl tkc],.int .i64 (-1)])∧Hid (CsB (λ b=>ww.heap.size<=b) w' 2001 (.agg #[.int .i64 tk,.int .i64 tr,.slice tpo tpl tpc,.slice tko tkl tkc]) tt)∧Za ww w'):=λ ww fo fc oo oc h1 h2 h3 h4=>by
    refine (CN.out ww fo fc oo oc h1 h2 h3 h4).mono ?_;rintro e w' ⟨v,rfl,g1,g2⟩;obtain ⟨tk,tr,tpo,tpl,tpc,tko,tkl,tkc,rfl⟩:=g1.shape;exact ⟨tk,tr,tpo,tpl,tpc,tko,tkl,tkc,rfl,g1,g2⟩
   have HP:Hid (∀ v w', Za w w' -> CsB (λ b=>w.heap.size<=b) w' 2001 v tt->Jb L R (s:Int) w (.returned (.tuple #[v,.slice none 0 0])) w'):=λ v w' h1 h2=>⟨h1,by rw [if_pos HD.out,Int.toNat_natCast,hg];exact ⟨v,rfl,h2⟩⟩;clear CN hg hd hle;generalize Zw L s=fs at *;generalize Yq L R s=rr at *
   go_enter Tryz.func9,Tryz.ntmps9
   go_upto_region 1 with fail
   rw [<- hW1];clear hW1
   go_upto_region 4 with (first | (go_at_call 41;refine CD.mono ?_;rintro e w1 ⟨rfl,rfl⟩))
   have C1:=CF.out w1 KW
   go_upto_region 5 with (first
    | (go_at_call 43;refine C1.mono ?_;rintro e w2 ⟨fo,fc,rfl,hf2,k2⟩;have C2:=CO.out w2 (KW.trans' k2))
    | (go_at_call 44;refine C2.mono ?_;rintro e w3 ⟨oo,oc,rfl,ho3,k3⟩;have C3:=CE.out w3 fo fc oo oc ((KW.trans' k2).trans' k3) (hf2.out.1.same k3) hf2.out.2 ho3.out)
    | (go_at_call 42;refine C3.mono ?_;rintro e w4 ⟨tk,tr,tpo,tpl,tpc,tko,tkl,tkc,rfl,hcs,k4⟩))
   obtain ⟨w5,hw5⟩:∃ w5,w5=w4.alloc (.cells #[.int .i64 tk,.int .i64 tr,.slice tpo tpl tpc,.slice tko tkl tkc] 35):=⟨_,rfl⟩;have k45:Za w4 w5:=by rw [hw5];exact (Zc.refl _ _).alloc _
   have k5:Za (w.alloc Z1) w5:=by rw [<- HW.out];exact ((k2.trans' k3).trans' k4).trans' k45
   have b5:w5.heap[w4.heap.size]? = some (.cells #[.int .i64 tk,.int .i64 tr,.slice tpo tpl tpc,.slice tko tkl tkc] 35 (0,0)):=by rw [hw5];exact heap_alloc_new _ _
   rw [<- hw5];have c0:=Zb b5 0;have c1:=Zb b5 1;have c2:=Zb b5 2;have c3:=Zb b5 3;simp only [List.getElem?_toArray,List.getElem?_cons_zero,List.getElem?_cons_succ] at c0 c1 c2 c3;have hcs5:=hcs.out.same k45;have z1:=HEZ.out;have z3:w.heap.size<w3.heap.size:=by have:=k2.size;have:=k3.size;omega
   clear hw5 C1 C2 C3 CE CF CO CD hf2 ho3 hcs b5;obtain ⟨⟨r0,r1,r2,r3⟩,f0,f1,f2,f3⟩:=Jz _ k5;obtain ⟨⟨g0,g1,g2,g3⟩,kk,ks⟩:=Zao (w:=w) (x0:=.int .i64 tk) (x1:=.int .i64 tr) (x2:=.slice tpo tpl tpc) (x3:=.slice tko tkl tkc) _ k5;have HF:=HP.out _ _ ks (CsB.mono (λ b hb q=>by have q' : w3.heap.size<=b:=q;show w.heap.size<=b;omega) (CsB.kept kk (λ b q e=>by have q' : w3.heap.size<=b:=q;have e' : b=w.heap.size:=e;omega) hcs5));have GG:Hid (_∧_∧_∧_):=⟨g0,g1,g2,g3⟩;have HF2:Hid (Jb _ _ _ _ _ _):=HF;clear g0 g1 g2 g3 kk ks HF k5 hcs5 z1 z3;go_wp2;obtain ⟨g0,g1,g2,g3⟩:=GG.out;exact bodyPost_ret (v:=.tuple #[.agg #[.int .i64 tk,.int .i64 tr,.slice tpo tpl tpc,.slice tko tkl tkc],.slice none 0 0]) (by simp [results,Tryz.results9,go_sem,g0,g1,g2,g3]) rfl HF2.out
end
section
open Go.RowKit
theorem Lay.wide {B:Nat->Prop} {w:World} {vi vp:Value} {s:St9} (h:Lay B w vi vp s):Lay (λ q=>B q∨w.heap.size<=q) w vi vp s:=h.mono (λ b hb e=>e.resolve_right (by omega))
structure CoJ (L:List Sym) (R:List Ru) (W2:World) (cb k:Nat) (W:World) (ev vi vp:Value):Prop where
 kp:Zc (λ q=>q=cb) W2 W
 bx:W.heap[cb]? = some (.cells #[.slice none 0 0,.slice none 0 0,ev,.slice none 0 0] 51 (0,0))
 row:Row W2.heap.size W ev (Zk L R k).2
 lay:Lay (EnB W2.heap.size cb ev) W vi vp (Zk L R k).1
theorem CoJ.up {L:List Sym} {R:List Ru} {W2 W W' : World} {cb k:Nat} {ev vi vp:Value} (h:CoJ L R W2 cb k W ev vi vp) (hk:Za W W'):CoJ L R W2 cb k W' ev vi vp:=
 ⟨Zc.trans h.kp hk (λ _ _ f=>f.elim),hk.at0 h.bx,hk.row h.row (λ _ _ f=>f),h.lay.same hk⟩
theorem CoJ.push {W2 X w2:World} {cb:Nat} {ev ev' vi vp:Value} {E:List Int} {s:St9} {z:Int} {B:Nat->Prop} (h1:Zc (λ q=>q=cb) W2 X) (h2:X.heap[cb]? = some (.cells #[.slice none 0 0,.slice none 0 0,ev,.slice none 0 0] 51 (0,0))) (h3:Row W2.heap.size X ev E) (h4:Lay B X vi vp s) (hB:∀ q,EnB W2.heap.size cb ev q->B q) (hr:Row W2.heap.size w2 ev' (E ++ [z])) (hk:Zc (λ q=>ev.ownBlock=some q) X w2) :
  w2.heap[cb]? = some (.cells #[.slice none 0 0,.slice none 0 0,ev,.slice none 0 0] 51 (0,0))∧(w2.setCell ⟨cb,2,none⟩ ev').heap[cb]? = some (.cells #[.slice none 0 0,.slice none 0 0,ev', .slice none 0 0] 51 (0,0))∧Row W2.heap.size (w2.setCell ⟨cb,2,none⟩ ev') ev' (E ++ [z])∧Lay B (w2.setCell ⟨cb,2,none⟩ ev') vi vp s∧Zc (λ q=>ev.ownBlock=some q∨q=cb) X (w2.setCell ⟨cb,2,none⟩ ev')∧Zc (λ q=>q=cb) W2 (w2.setCell ⟨cb,2,none⟩ ev'):=by
 have ne:¬ ev.ownBlock=some cb:=λ e=>by
  obtain ⟨cur,hc⟩:=Zo h3 e;rw [h2] at hc;cases hc
 have b2:=hk.at h2 ne;have ks:=Zt w2 cb 2 ev';have kk:Zc (λ q=>ev.ownBlock=some q∨q=cb) X (w2.setCell ⟨cb,2,none⟩ ev'):=Zc.trans (hk.mono (λ _ _ e=>.inl e)) ks (λ _ _ e=>.inr e);refine ⟨b2,by rw [Zs b2];rfl,?_,h4.keptB kk (λ q e=>hB q ?_),kk,Zc.trans h1 kk (λ i hi e=>?_)⟩
 ·exact ks.row hr (λ q e e2=>by
   have e3:q=cb:=e2;rw [e3] at e;obtain ⟨cur,hc⟩:=Zo hr e
   rw [b2] at hc;cases hc)
 ·rcases e with e | e
  ·exact .inr (.inr e)
  ·exact .inr (.inl e)
 ·rcases e with e | e
  ·have:=Y0 h3 e;omega
  ·exact e
theorem CoJ.pass {L:List Sym} {R:List Ru} {W2 X w2:World} {cb k:Nat} {ev vi vp ev' : Value} (hk:Y7 L (k:Int)=false) (h:CoJ L R W2 cb k X ev vi vp) (hr:Row W2.heap.size w2 ev' ((Zk L R k).2 ++ [-1])) (hkp:Zc (λ q=>ev.ownBlock=some q) X w2) (hat:∀ q,ev'.ownBlock=some q->ev.ownBlock=some q∨X.heap.size<=q) :
  w2.heap[cb]? = some (.cells #[.slice none 0 0,.slice none 0 0,ev,.slice none 0 0] 51 (0,0))∧CoJ L R W2 cb (k+1) (w2.setCell ⟨cb,2,none⟩ ev') ev' vi vp:=by
 obtain ⟨q1,q2,q3,q4,q5,q6⟩:=CoJ.push h.kp h.bx h.row h.lay.wide (λ q e=>.inl e) hr hkp;refine ⟨q1,⟨q6,q2,?_,?_⟩⟩
 ·rw [Za5 hk];exact q3
 ·rw [Za5 hk]
  refine q4.mono (λ b hb e=>?_)
  rcases e with e | e | e
  ·exact .inl (.inl e)
  ·exact .inl (.inr (.inl e))
  ·rcases hat b e with e | e
   ·exact .inl (.inr (.inr e))
   ·exact .inr e
theorem CoJ.laid {L:List Sym} {R:List Ru} {W2 W X w2:World} {cb k:Nat} {ev vi vp ev' : Value} {t:Tr 2001} {v:Value} (hk:Y7 L (k:Int)=true) (ht:X5 L R k=.ok t) (hcb:cb<W2.heap.size) (hsm:(Zk L R k).1.1.length+(Zk L R k).1.2.length+Za6 2001 t<=1000000000000) (h:CoJ L R W2 cb k W ev vi vp) (hX:Za W X) (hcs:CsB (λ b=>W.heap.size<=b) X 2001 v t)
  (hr:Row W2.heap.size w2 ev' ((Zk L R k).2 ++ [((Zk L R k).1.1.length:Int)])) (hkp:Zc (λ q=>ev.ownBlock=some q) X w2) (hat:∀ q,ev'.ownBlock=some q->ev.ownBlock=some q∨X.heap.size<=q) :
  w2.heap[cb]? = some (.cells #[.slice none 0 0,.slice none 0 0,ev,.slice none 0 0] 51 (0,0))∧Zc (λ q=>q<W.heap.size) X (w2.setCell ⟨cb,2,none⟩ ev') ∧
  Calls Tryz.prog 52 #[v,vi,vp] (w2.setCell ⟨cb,2,none⟩ ev') λ e Z=>∃ vi' vp', e=.returned (.tuple #[vi', vp'])∧CoJ L R W2 cb (k+1) Z ev' vi' vp' := by
 have hu:=h.up hX;obtain ⟨q1,q2,q3,q4,q5,q6⟩:=CoJ.push hu.kp hu.bx hu.row (h.lay.wide.same hX) (λ q e=>.inl e) hr hkp;obtain ⟨Y,hY⟩:∃ Y,Y=w2.setCell ⟨cb,2,none⟩ ev' := ⟨_,rfl⟩;rw [<- hY] at q2 q3 q4 q5 q6 ⊢;have hzX:=hX.size;have hz1:=h.kp.size;have hzY:=q5.size;obtain ⟨B3,hB3⟩:∃ B3:Nat->Prop,B3=λ q=>(EnB W2.heap.size cb ev q∨W.heap.size<=q)∧q<Y.heap.size:=⟨_,rfl⟩;have T3:Lay B3 Y vi vp (Zk L R k).1:=q4.mono (λ b _ e=>by rw [hB3] at e;exact e.1)
 have far:∀ b,W.heap.size<=b->¬ (ev.ownBlock=some b∨b=cb):=λ b hb e=>by
  rcases e with e | e
  ·have:=Y3 h.row e;omega
  ·omega
 have C3:CsB B3 Y 2001 v t:=CsB.mono (λ b hb e=>by rw [hB3];exact ⟨.inr e,hb⟩) (CsB.kept q5 (λ b e=>far b e) hcs)
 have up:∀ q,EnB W2.heap.size cb ev' q->q<Y.heap.size->B3 q:=λ q e hl=>by
  rw [hB3];refine ⟨?_,hl⟩
  rcases e with e | e | e
  ·exact .inl (.inl e)
  ·exact .inl (.inr (.inl e))
  ·rcases hat q e with e | e
   ·exact .inl (.inr (.inr e))
   ·exact .inr (by omega)
 refine ⟨q1,q5.mono (λ q hq e=>?_),(Zh1 2001 B3 Y v vi vp t (Zk L R k).1 T3 (λ b e=>by rw [hB3] at e;exact e.2) C3 hsm).mono ?_⟩
 ·rcases e with e | e
  ·exact Y3 h.row e
  ·omega
 rintro e Z ⟨vi', vp', rfl,hc,hkz⟩;have keep:∀ q,B3 q->¬ ¬ B3 q:=λ q h n=>n h;have low:∀ q,q<W2.heap.size->B3 q:=λ q hq=>up q (.inl hq) (by omega);refine ⟨vi', vp', rfl,⟨Zc.trans q6 hkz (λ i hi e=>absurd (low i hi) e),hkz.at q2 (keep _ (up _ (.inr (.inl rfl)) (by omega))),?_,?_⟩⟩
 ·rw [Jy hk ht]
  exact hkz.row q3 (λ q e=>keep _ (up q (.inr (.inr e)) (Y3 q3 e)))
 ·rw [Jy hk ht]
  refine hc.mono (λ b hb e=>up b e ?_)
  rcases e with e | e | e
  ·omega
  ·omega
  ·exact Y3 q3 e
end
end Go.Proofs.YtjahpnbijefncaaGreat
