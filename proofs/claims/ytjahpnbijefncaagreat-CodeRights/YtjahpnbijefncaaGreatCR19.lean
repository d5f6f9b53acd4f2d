import Derived.Test.YtjahpnbijefncaaGreatCR17
import Derived.Test.YtjahpnbijefncaaGreatCR18
import Derived.Test.YtjahpnbijefncaaGreatCR16
import Derived.Deep.RegionLaw
import Derived.Deep.AppendLies
import Derived.Test.YtjahpnbijefncaaGreatCR06
namespace Go.Proofs.YtjahpnbijefncaaGreat
set_option maxRecDepth 100000
set_option linter.unusedVariables false
def K3:(n:Nat)→Tr n→Prop
 | 0,_=>True
 | n+1,(k,r,p,l)=>(k=1∨k=2∨k=3)∧∀ x∈l,K3 n x.2
theorem kids_K3 {L:List Sym} {n:Nat} {P:List (List Int)} {R:List Rw} {c:Nat} (IH:∀ P R t,growF L n P R=.ok t→K3 n t):∀ k l,KidsF L n P R c k=.ok l→∀ x∈l,K3 n x.2
 | 0,l,h=>by cases h;simp
 | k+1,l,h=>by
  unfold KidsF kidsN at h
  cases hk:KidsF L n P R c k with
  | error e=>unfold KidsF at hk;rw [hk] at h;cases h
  | ok m=>
   have hm:=kids_K3 IH k m hk
   unfold KidsF at hk
   rw [hk] at h
   simp only at h
   split at h
   ·split at h
    ·cases h
    ·rename_i t ht
     cases h
     intro x hx
     rcases List.mem_append.1 hx with q | q
     ·exact hm x q
     ·simp only [List.mem_singleton] at q
      rw [q]
      exact IH _ _ _ ht
   ·cases h;exact hm
theorem grow_K3 {L:List Sym}:∀ (n:Nat) (P:List (List Int)) (R:List Rw) (t:Tr n),growF L n P R=.ok t→K3 n t
 | 0,P,R,t,h=>trivial
 | n+1,P,R,t,h=>by
  by_cases h0:R.length=0
  ·rw [growF_zero h0] at h
   cases h
   exact ⟨.inr (.inr rfl),by simp⟩
  ·cases hp:partN R P.length with
   | none=>
    by_cases h1:R.length=1
    ·rw [growF_leaf h1 hp] at h
     cases h
     exact ⟨.inl rfl,by simp⟩
    ·rw [growF_fork h0 h1 hp] at h;cases h
   | some c=>
    rw [growF_branch h0 hp] at h
    unfold BrF at h
    cases hk:KidsF L n P R c L.length with
    | error e=>rw [hk] at h;cases h
    | ok l=>
     rw [hk] at h
     cases h
     exact ⟨.inr (.inl rfl),kids_K3 (grow_K3 n) _ _ hk⟩
def tot3 (a:T3):Nat:=a.1+a.2.1+a.2.2
theorem tot_add (a b:T3):tot3 (add3 a b)=tot3 a+tot3 b:=by simp [tot3,add3];omega
theorem szT_eq {n:Nat} (k r:Int) (p:List Int) (l:List (Int × Tr n)):szT (n+1) (k,r,p,l)=add3 (kind3 k) (if k=2 then sum3 (fun x=>szT n x.2) l else (0,0,0)):=rfl
theorem K3_eq {n:Nat} (k r:Int) (p:List Int) (l:List (Int × Tr n)):K3 (n+1) (k,r,p,l)=((k=1∨k=2∨k=3)∧∀ x∈l,K3 n x.2):=rfl
theorem insN_kids {n:Nat} (h:∀ t:Tr n,K3 n t→insN n t+1≤4 * tot3 (szT n t)):∀ l:List (Int × Tr n),(∀ x∈l,K3 n x.2)→sumN (l.map (fun x=>insN n x.2))+l.length≤4 * tot3 (sum3 (fun x=>szT n x.2) l)
 | [],_=>by simp [sumN,sum3,tot3]
 | x :: r,hx=>by
  have a:=h x.2 (hx x (List.mem_cons_self ..))
  have b:=insN_kids h r (fun y hy=>hx y (List.mem_cons_of_mem _ hy))
  simp only [List.map_cons,sumN,sum3,tot_add,List.length_cons]
  omega
theorem insN_le:∀ (n:Nat) (t:Tr (n+1)),K3 (n+1) t→insN (n+1) t+1≤4 * tot3 (szT (n+1) t)
 | n,(k,r,p,l),h=>by
  rw [K3_eq] at h
  obtain ⟨hk,hl⟩:=h
  rw [insN_eq,szT_eq,tot_add]
  rcases hk with rfl | rfl | rfl
  ·rw [if_neg (by decide),if_neg (by decide)];simp [kind3,tot3]
  ·rw [if_pos rfl,if_pos rfl]
   have e1:tot3 (kind3 2)=1:=rfl
   rw [e1]
   cases n with
   | zero=>
    have:l=[]:=by
     cases l with
     | nil=>rfl
     | cons x r=>exact (x.2:Empty).elim
    subst this
    simp [sumN,sum3,tot3]
   | succ n=>
    have:=insN_kids (insN_le n) l hl
    omega
  ·rw [if_neg (by decide),if_neg (by decide)];simp [kind3,tot3]
theorem tree_small {L:List Sym} (hA:Ars L) (hL:L.length≤64) {R:List Ru} (hle:R.length≤100) (hok:∀ x∈R,checkE L x.1=0∧checkE L x.2=0) {s:Nat} (hs:s<L.length) {t:Tr 2001} (h:treeF L R s=.ok t):insN 2001 t≤1000000:=by
 have hN:=root_ok hA hle hok hs
 have G:GL 2001 (rootR L R s) t:=grow_GL hA hL 2001 _ _ t hN h
 have hR:=hN.le
 have h1:insN 2001 t+1≤4 * tot3 (szT 2001 t):=insN_le 2000 t (grow_K3 2001 _ _ t h)
 have h2:=G.lv
 have h3:=G.br
 have h4:=G.fl
 have h5:(szT 2001 t).2.2≤1:=by rw [h4];split <;> omega
 have h6:2001 * (rootR L R s).length≤2001 * 100:=Nat.mul_le_mul_left _ hR
 simp only [tot3] at h1
 omega
def cmpS (L:List Sym) (R:List Ru):Nat→St9 × List Int
 | 0=>(([],[]),[])
 | k+1=>if defB L (k:Int)=true then (match treeF L R k with | .ok t=>(layS 2001 t (cmpS L R k).1,(cmpS L R k).2 ++ [((cmpS L R k).1.1.length:Int)]) | .error _=>((cmpS L R k).1,(cmpS L R k).2)) else ((cmpS L R k).1,(cmpS L R k).2 ++ [-1])
theorem cmpS_no {L:List Sym} {R:List Ru} {k:Nat} (h:defB L (k:Int)=false):cmpS L R (k+1)=((cmpS L R k).1,(cmpS L R k).2 ++ [-1]):=by rw [cmpS,if_neg (by rw [h];simp)]
theorem cmpS_yes {L:List Sym} {R:List Ru} {k:Nat} (h:defB L (k:Int)=true) {t:Tr 2001} (ht:treeF L R k=.ok t):cmpS L R (k+1)=(layS 2001 t (cmpS L R k).1,(cmpS L R k).2 ++ [((cmpS L R k).1.1.length:Int)]):=by rw [cmpS,if_pos h,ht]
theorem cmpS_small {L:List Sym} (hA:Ars L) (hL:L.length≤64) {R:List Ru} (hle:R.length≤100) (hok:∀ x∈R,checkE L x.1=0∧checkE L x.2=0):∀ k,k≤L.length→(cmpS L R k).1.1.length+(cmpS L R k).1.2.length≤k * 1000000∧(cmpS L R k).2.length≤k
 | 0,_=>by simp [cmpS]
 | k+1,hk=>by
  obtain ⟨a,b⟩:=cmpS_small hA hL hle hok k (by omega)
  cases hd:defB L (k:Int) with
  | false=>
   rw [cmpS_no hd]
   simp only [List.length_append,List.length_cons,List.length_nil]
   omega
  | true=>
   cases ht:treeF L R k with
   | error z=>
    rw [cmpS,if_pos hd,ht]
    simp only
    omega
   | ok t=>
    rw [cmpS_yes hd ht]
    have h1:=tree_small hA hL hle hok (s:=k) (by omega) ht
    have h2:=(layS_len 2001 t (cmpS L R k).1).1
    simp only [List.length_append,List.length_cons,List.length_nil]
    omega
end Go.Proofs.YtjahpnbijefncaaGreat
namespace Go.Proofs.YtjahpnbijefncaaGreat
set_option maxRecDepth 100000
set_option linter.unusedVariables false
open Go.RowKit
attribute [local go_sem ↓] Go.wp_at_zero Go.wp_at_succ
structure Lent7 (base:Nat) (w:World) (v:Value) (l:List Ru) (k:Nat) (vs:List Value) (f:Nat→Nat):Prop where
 row:w.ownsRow base 68 2 v k vs
 le:k≤l.length
 lo:∀ i,i<k * 2→base≤f i∧f i<w.heap.size
 up:∀ i j,i<j→j<k * 2→f i<f j
 one:∀ i (h:i<l.length),i<k→vs[i * 2]? = some (.slice (some ⟨f (i * 2),0,none⟩) l[i].1.length (l[i].1.length+1))∧Row base w (.slice (some ⟨f (i * 2),0,none⟩) (l[i].1.length+1) (l[i].1.length+1)) (l[i].1 ++ [77])
 two:∀ i (h:i<l.length),i<k→vs[i * 2+1]? = some (.slice (some ⟨f (i * 2+1),0,none⟩) l[i].2.length (l[i].2.length+1))∧Row base w (.slice (some ⟨f (i * 2+1),0,none⟩) (l[i].2.length+1) (l[i].2.length+1)) (l[i].2 ++ [78])
structure Left7 (base:Nat) (w:World) (gv:Nat) (l:List Ru) (k:Nat) (f:Nat→Nat):Prop where
 blk:∃ cur,w.heap[gv]? = some (.cells cur 68 (0,0))∧l.length * 2≤cur.size∧∀ i (h:i<l.length),k≤i→cur[i * 2]? = some (.slice (some ⟨f (i * 2),0,none⟩) l[i].1.length (l[i].1.length+1))∧cur[i * 2+1]? = some (.slice (some ⟨f (i * 2+1),0,none⟩) l[i].2.length (l[i].2.length+1))
 ge:base≤gv∧∀ i,i<l.length * 2→base≤f i
 up:∀ i j,i<j→j<l.length * 2→f i<f j
 one:∀ i (h:i<l.length),k≤i→Row base w (.slice (some ⟨f (i * 2),0,none⟩) (l[i].1.length+1) (l[i].1.length+1)) (l[i].1 ++ [77])
 two:∀ i (h:i<l.length),k≤i→Row base w (.slice (some ⟨f (i * 2+1),0,none⟩) (l[i].2.length+1) (l[i].2.length+1)) (l[i].2 ++ [78])
theorem step_ownT {wb W : World} {ops : Array Oper} {o : Oper} {a : Act} {K : Act → World → Prop} {Q : Exit → Act → World → Prop} {E : Prop} (hgd : o.guard = none) (s x : Operand)
    (ho : o.op = .call { callee := .builtin .append, args := #[s, x], argTypes := #[64, 64] })
    (B : Nat) (hs : a.eval s = .slice (some ⟨B, 0, none⟩) 0 0) (ys : List Int) (ad : Addr) (c : Nat) (hx : a.eval x = .slice (some ad) ys.length c)
    (hW : Same0 wb W) (hB : W.heap[B]? = some (.cells #[] 3 (0, 0))) (hb : wb.heap.size ≤ B) (hy : IntsAt wb (some ad) ys) (hn : 0 < ys.length) (hsz : ys.length ≤ 2000)
    (h : ∀ g cap w', TmAt w' g cap ys → wb.heap.size ≤ g → Same0 wb w' → (∀ g2 c2 zs, TmAt W g2 c2 zs → 0 < zs.length → TmAt w' g2 c2 zs) → (∀ q o, q ≠ B → W.heap[q]? = some o → w'.heap[q]? = some o) → K (a.put o.dst (.slice (some ⟨g, 0, none⟩) ys.length cap)) w') :
    if Region.wanted o (yielded ops a.tmps) = true then Oper.wp Tryz.prog o a W K Q else E := by
  obtain ⟨i, hi, hz0, hz1, hz2⟩ := info_parts info_intT
  have hBl := lt_of_at hB
  refine step_append_lies _ hgd s x 64 ho wb.heap.size 3 i _ 1 8 Tryz.underlying64 hi hz0 hz1 hz2 rfl (by decide) (.slice (some ⟨B, 0, none⟩) 0 0) 0 [] hs ⟨rfl, .inr ⟨B, 0, #[], rfl, hb, hB, Nat.le_refl _, by unfold maxLen; omega, rfl, rfl⟩⟩ ad ys.length c (iv ys) hx (by rw [iv_length]; omega) (fun j u hj => ?_) (iv_oneCell ys) hn (by unfold maxLen; omega) (by omega) hW.size W.heap.size rfl ?_
  · obtain ⟨ad', e, hc⟩ := (hy.same hW).src (by have := (List.getElem?_eq_some_iff.1 hj).1; omega)
    cases e
    exact hc j u hj
  · intro g cap w' hown hgrow hat hlt
    have k : Kept (fun k => k = B) W w' := Kept.grown (Kept.refl _ W) hgrow (fun _ e _ => by simp only [Value.ownBlock, Option.some.injEq] at e; exact e.symm)
    simp only [Nat.zero_add, List.nil_append] at hown ⊢
    refine h g cap w' ?_ (by rcases hat with e | e; · simp only [Value.ownBlock, Option.some.injEq] at e; omega
                             · have := hW.size; omega) (hW.trans (Kept.mono k (fun i hi e => e)) (fun i hi e => by omega)) (fun g2 c2 zs ht hz => ?_) (fun q o hq ho => k.at ho hq)
    · refine ⟨hown.1, .inr ?_⟩
      rcases hown.2 with ⟨e, _⟩ | ⟨g', c', cur, e, _, r⟩
      · cases e
      · cases e
        exact ⟨g, cap, cur, rfl, Nat.le_refl _, r⟩
    · refine k.row ht (fun q e hq => ?_)
      rcases ht.2 with ⟨e0, _⟩ | ⟨g', c', cur, e1, _, hg, h1, h2, h3, h4⟩
      · cases e0
      · cases e1
        simp only [Value.ownBlock, Option.some.injEq] at e
        subst e; subst hq
        rw [hB] at hg
        cases hg
        simp at h3
        omega
set_option maxHeartbeats 8000000 in
theorem rown_any {w:World} {a1 a2:Addr} {ac bc:Nat} {x:Ru} (h1:IntsAt w (some a1) x.1) (h2:IntsAt w (some a2) x.2) (p1:0<x.1.length) (p2:0<x.2.length) (m1:x.1.length≤2000) (m2:x.2.length≤2000) :
  Calls Tryz.prog 79 #[.agg #[.slice (some a1) x.1.length ac,.slice (some a2) x.2.length bc]] w fun e w' => ∃ g c g' c', e=.returned (.agg #[.slice (some ⟨g,0,none⟩) x.1.length c,.slice (some ⟨g', 0,none⟩) x.2.length c'])∧TmAt w' g c x.1∧TmAt w' g' c' x.2∧w.heap.size≤g∧w.heap.size≤g' ∧ Same0 w w' := by
 obtain ⟨wb,hwb⟩:∃ wb,wb=(w.alloc (.cells #[.slice (some a1) x.1.length ac,.slice (some a2) x.2.length bc] 68)).alloc (.cells #[.slice none 0 0,.slice none 0 0] 68):=⟨_,rfl⟩
 have K0:Same0 w wb:=by rw [hwb];exact ((Kept.refl _ w).alloc _).alloc _
 have z0:wb.heap.size=w.heap.size+2:=by rw [hwb];simp
 have B0:wb.heap[w.heap.size]? = some (.cells #[.slice (some a1) x.1.length ac,.slice (some a2) x.2.length bc] 68 (0,0)):=by rw [hwb];exact heap_alloc2_old _ _ _
 have B1:wb.heap[w.heap.size+1]? = some (.cells #[.slice none 0 0,.slice none 0 0] 68 (0,0)):=by rw [hwb];exact heap_al_al _ _ _
 have HS:Hid (∀ ww,Same0 wb ww→(ww.cell? ⟨w.heap.size,0,none⟩=some (.slice (some a1) x.1.length ac)∧ww.cell? ⟨w.heap.size,1,none⟩=some (.slice (some a2) x.2.length bc))∧(ww.cell? ⟨w.heap.size+1,0,none⟩=some (.slice none 0 0)∧ww.cell? ⟨w.heap.size+1,1,none⟩=some (.slice none 0 0))∧ww.frozen? ⟨w.heap.size+1,0,none⟩=false∧ww.frozen? ⟨w.heap.size+1,1,none⟩=false):=fun ww hk=>⟨⟨cellAt (hk.at0 B0) 0,cellAt (hk.at0 B0) 1⟩,⟨cellAt (hk.at0 B1) 0,cellAt (hk.at0 B1) 1⟩,frozenAt (hk.at0 B1) 0,frozenAt (hk.at0 B1) 1⟩
 have HEnd:Hid (∀ ww (A B:Value),Same0 wb ww→Same0 w ((ww.setCell ⟨w.heap.size+1,0,none⟩ A).setCell ⟨w.heap.size+1,1,none⟩ B)):=fun ww A B hk=>((K0.trans' hk).setCell (fun h=>absurd h (by simp)) _).setCell (fun h=>absurd h (by simp)) _
 have HT:Hid (∀ ww g c xs (A B:Value),TmAt ww g c xs→wb.heap.size≤g→TmAt ((ww.setCell ⟨w.heap.size+1,0,none⟩ A).setCell ⟨w.heap.size+1,1,none⟩ B) g c xs):=fun ww g c xs A B ht hg=>by
  have k:Kept (fun k=>k=w.heap.size+1) ww ((ww.setCell ⟨w.heap.size+1,0,none⟩ A).setCell ⟨w.heap.size+1,1,none⟩ B):=Kept.setCell (p:=⟨w.heap.size+1,1,none⟩) (Kept.setCell (p:=⟨w.heap.size+1,0,none⟩) (Kept.refl (fun k=>k=w.heap.size+1) ww) (fun _=>rfl) A) (fun _=>rfl) B
  exact k.row ht (fun i e=>by simp [Value.ownBlock] at e;omega)
 have HR:Hid (∀ ww (A B:Value),Same0 wb ww→((ww.setCell ⟨w.heap.size+1,0,none⟩ A).setCell ⟨w.heap.size+1,1,none⟩ B).cell? ⟨w.heap.size+1,0,none⟩=some A∧((ww.setCell ⟨w.heap.size+1,0,none⟩ A).setCell ⟨w.heap.size+1,1,none⟩ B).cell? ⟨w.heap.size+1,1,none⟩=some B):=fun ww A B hk=>by
  have b:=setAt (setAt (hk.at0 B1) 0 A) 1 B
  exact ⟨cellAt b 0,cellAt b 1⟩
 have I1:=h1.same K0
 have I2:=h2.same K0
 obtain ⟨⟨c00,c01⟩,⟨c10,c11⟩,f10,f11⟩:=HS.out wb (Kept.refl _ _)
 have HW:Hid (wb=(w.alloc (.cells #[.slice (some a1) x.1.length ac,.slice (some a2) x.2.length bc] 68)).alloc (.cells #[.slice none 0 0,.slice none 0 0] 68)):=hwb
 clear B0 B1 h1 h2 hwb
 go_enter Tryz.func79,Tryz.ntmps79
 go_wp2
 rw [← HW.out]
 have E0:(wb.alloc (.cells #[] 3)).heap[w.heap.size+2]? = some (.cells #[] 3 (0,0)):=by rw [← z0];exact heap_alloc_new _ _
 have E1:((wb.alloc (.cells #[] 3)).alloc (.cells #[] 3)).heap[w.heap.size+2]? = some (.cells #[] 3 (0,0)):=by rw [← z0];exact heap_alloc2_old _ _ _
 have E2:((wb.alloc (.cells #[] 3)).alloc (.cells #[] 3)).heap[w.heap.size+3]? = some (.cells #[] 3 (0,0)):=by have:=heap_alloc_new (wb.alloc (.cells #[] 3)) (.cells #[] 3 (0,0));rw [World.size_alloc,z0] at this;exact this
 have HE:Hid ((wb.alloc (.cells #[] 3)).heap[w.heap.size+2]? = some (.cells #[] 3 (0,0))∧((wb.alloc (.cells #[] 3)).alloc (.cells #[] 3)).heap[w.heap.size+2]? = some (.cells #[] 3 (0,0))∧((wb.alloc (.cells #[] 3)).alloc (.cells #[] 3)).heap[w.heap.size+3]? = some (.cells #[] 3 (0,0))):=⟨E0,E1,E2⟩
 have hz0:Hid (wb.heap.size=w.heap.size+2):=z0
 clear E0 E1 E2
 rename_i QQ KK hKK
 have FIN:Hid (∀ (t0 t1 t3 t4 t5 t6 t7 t8 t9 t10 t11:Value) (w2:World) (g c g' c' : Nat),Same0 wb w2→TmAt w2 g c x.1→TmAt w2 g' c' x.2→wb.heap.size≤g→wb.heap.size≤g' → KK { tmps:=#[t0,t1,.pointer (some ⟨w.heap.size+1,0,none⟩),t3,t4,t5,t6,t7,t8,t9,t10,t11],defers:=[] } ((w2.setCell ⟨w.heap.size+1,0,none⟩ (.slice (some ⟨g,0,none⟩) x.1.length c)).setCell ⟨w.heap.size+1,1,none⟩ (.slice (some ⟨g', 0,none⟩) x.2.length c'))):=by
  intro t0 t1 t3 t4 t5 t6 t7 t8 t9 t10 t11 w2 g c g' c' S3 T5 T3 G1 G3
  apply hKK
  clear HS I1 I2
  go_wp2
  exact bodyPost_ret (v:=.agg #[.slice (some ⟨g,0,none⟩) x.1.length c,.slice (some ⟨g', 0,none⟩) x.2.length c']) (by obtain ⟨r0,r1⟩:=HR.out w2 (.slice (some ⟨g,0,none⟩) x.1.length c) (.slice (some ⟨g', 0,none⟩) x.2.length c') S3;simp [results,Tryz.results79,go_sem,r0,r1]) rfl ⟨g,c,g', c', rfl,HT.out _ _ _ _ _ _ T5 G1,HT.out _ _ _ _ _ _ T3 G3,by omega,by omega,HEnd.out _ _ _ S3⟩
 clear HR HT HEnd
 go_region_law (first
  | (have T2:=T1;have hz:=hz0.out;have hzz:=S1.size;refine step_ownT (wb:=wb) (by rfl) _ _ (by rfl) _ (by rfl) x.2 a2 bc (by rfl) (by first | exact S1 | exact S1.alloc _) (by first | exact heap_alloc_new _ _ | exact X2 | exact X3) (by omega) I2 p2 m2 ?_;intro g' c' w2 T3 G3 S3 T4 _;obtain ⟨⟨e00,e01⟩,⟨e10,e11⟩,y10,y11⟩:=HS.out w2 S3;have T5:=T4 _ _ _ (by first | exact T2 | exact T2.same ((Kept.refl _ _).alloc _)) p1)
  | (have hz:=hz0.out;refine step_ownT (wb:=wb) (by rfl) _ _ (by rfl) _ (by rfl) x.1 a1 ac (by rfl) (by first | exact ((Kept.refl _ wb).alloc _).drew | exact (((Kept.refl _ wb).alloc _).alloc _).drew | exact (Kept.refl _ wb).drew.alloc _ | exact ((Kept.refl _ wb).drew.alloc _).alloc _) (by first | exact HE.out.1 | exact HE.out.2.1 | exact HE.out.2.2) (by omega) I1 p1 m1 ?_;intro g c w1 T1 G1 S1 T0 KQ;obtain ⟨⟨e00,e01⟩,⟨e10,e11⟩,y10,y11⟩:=HS.out w1 S1;obtain ⟨⟨_,e01'⟩,_⟩:=HS.out _ (S1.alloc (.cells #[] 3)); (try have X2:=KQ (w.heap.size+2) _ (by omega) HE.out.2.1); (try have X3:=KQ (w.heap.size+3) _ (by omega) HE.out.2.2);clear hz KQ T0))
 all_goals exact FIN.out _ _ _ _ _ _ _ _ _ _ _ w2 g c g' c' S3 T5 T3 G1 G3
set_option maxHeartbeats 4000000 in
theorem rfree_any {w:World} {ao bo:Option Addr} {ac bc:Nat} {x:Ru} (h1:IntsAt w ao x.1) (h2:IntsAt w bo x.2) (m1:x.1.length≤2000) (m2:x.2.length≤2000) (b1:∀ n∈x.1, -99≤n) (b2:∀ n∈x.2, -99≤n) :
  Calls Tryz.prog 152 #[.agg #[.slice ao x.1.length ac,.slice bo x.2.length bc]] w fun e w' => e=.returned (.bool (!x.2.all (fun n=>!freeB x.1 n)))∧Same0 w w' := by
 rw [← free_eq b1 b2]
 have W0:Same0 w (w.alloc (.cells #[.slice ao x.1.length ac,.slice bo x.2.length bc] 68)):=(Kept.refl _ w).alloc _
 have hb:=heap_alloc_new w (.cells #[.slice ao x.1.length ac,.slice bo x.2.length bc] 68)
 have HB:Hid (∀ ww,Same0 (w.alloc (.cells #[.slice ao x.1.length ac,.slice bo x.2.length bc] 68)) ww→ww.cell? ⟨w.heap.size,0,none⟩=some (.slice ao x.1.length ac)∧ww.cell? ⟨w.heap.size,1,none⟩=some (.slice bo x.2.length bc)):=fun ww hk=>⟨cellAt (hk.at0 hb) 0,cellAt (hk.at0 hb) 1⟩
 have l1:(varsL x.1).length≤x.1.length:=by have:=vs_len [] x.1;simpa [varsL] using this
 have l2:(varsL x.2).length≤x.2.length:=by have:=vs_len [] x.2;simpa [varsL] using this
 have C1:=rvars_any (cap:=ac) (h1.same W0) (by omega)
 have C2:Hid (∀ ww,Same0 (w.alloc (.cells #[.slice ao x.1.length ac,.slice bo x.2.length bc] 68)) ww→Calls Tryz.prog 174 #[.slice bo x.2.length bc] ww fun e w' => ∃ v,e=.returned v∧Row ww.heap.size w' v (varsL x.2)∧Same0 ww w'):=fun ww hk=>rvars_any (cap:=bc) ((h2.same W0).same hk) (by omega)
 obtain ⟨c0,c1⟩:=HB.out _ (Kept.refl _ _)
 clear h1 h2 hb b1 b2
 go_enter Tryz.func152,Tryz.ntmps152
 go_upto_region 2 with (first | (go_at_call 174;refine C1.mono ?_;rintro e w2 ⟨v2,rfl,hr2,hk2⟩;obtain ⟨vo,vc,rfl,hi2,_,_⟩:=hr2.ints))
 obtain ⟨d0,d1⟩:=HB.out _ hk2
 have C3:=C2.out _ hk2
 clear c0 c1 C1 C2
 go_upto_region 3 with (first | (go_at_call 174;refine C3.mono ?_;rintro e w3 ⟨v3,rfl,hr3,hk3⟩;obtain ⟨uo,uc,rfl,hi3,_,_⟩:=hr3.ints))
 have hi2' := hi2.same hk3
 have K3:Hid (Same0 w w3):=W0.trans' (hk2.trans' hk3)
 clear d0 d1 C3 hr2 hr3 hk2 hk3 hi2 HB W0
 have CI:=fun z=>rIn_any (cap:=vc) hi2' z (by unfold maxLen;omega)
 go_wp2
 go_loop [5] (fun i=>∃ k:Nat,k≤(varsL x.2).length∧i=.int .i64 (k:Int)∧Hid (((varsL x.2).take k).all (fun v=>inB (varsL x.1) v)=true)) (fun i=>(varsL x.2).length-(intOf i).toNat)
 case atStart=>exact ⟨0,Nat.zero_le _,rfl,by show _=_;simp⟩
 case round=>
  obtain ⟨k,hk,rfl,ha⟩:=hrel
  by_cases hlt:k<(varsL x.2).length
  ·obtain ⟨tb,off', rfl,_,hcell⟩:=hi3.get hlt
   have i1:(0:Int)≤(k:Int):=by omega
   have i2:(k:Int)<((varsL x.2).length:Int):=by omega
   have C:=CI (varsL x.2)[k]
   cases hq:inB (varsL x.1) (varsL x.2)[k] with
   | true=>
    have H:Hid (((varsL x.2).take (k+1)).all (fun v=>inB (varsL x.1) v)=true):=by
     have:=ha.out
     show _=_
     rw [List.take_add_one,List.getElem?_eq_getElem hlt,List.all_append,this]
     simp [hq]
    rw [hq] at C
    clear hq ha
    go_wp2_with (first | (go_at_call 175;refine C.mono ?_;rintro e w4 ⟨rfl,rfl⟩))
    exact ⟨⟨k+1,by omega,by go_num,H⟩,by simp [intOf];omega⟩
   | false=>
    have H:Hid ((varsL x.2).all (fun v=>inB (varsL x.1) v)=false):=by
     show _=_
     rw [List.all_eq_false]
     exact ⟨(varsL x.2)[k],List.getElem_mem hlt,by simp [hq]⟩
    rw [hq] at C
    clear hq ha
    go_wp2_with (first | (go_at_call 175;refine C.mono ?_;rintro e w4 ⟨rfl,rfl⟩))
    go_ret
    exact ⟨by rw [H.out];rfl,K3.out⟩
  ·have H:Hid ((varsL x.2).all (fun v=>inB (varsL x.1) v)=true):=by
    have:=ha.out
    rw [List.take_of_length_le (by omega)] at this
    exact this
   have hlt' : ¬ (k:Int)<((varsL x.2).length:Int):=by omega
   go_wp2
   go_ret
   exact ⟨by rw [H.out];rfl,K3.out⟩
theorem ck3_eq {L:List Sym} {R l:List Ru} {n:Nat} {x:Ru} (hx:x=l.getD n ([],[])) (hp:0<x.1.length):ckB L R l 3 n=defB L x.1[0]:=by
 subst hx
 show defB L ((l.getD n ([],[])).1.headD (-1))=_
 generalize (l.getD n ([],[])).1=y at *
 cases y with
 | nil=>simp at hp
 | cons y r=>simp
theorem ck4_eq {L:List Sym} {R l:List Ru} {n:Nat} {x:Ru} (hx:x=l.getD n ([],[])):ckB L R l 4 n=decide (negN x.1=(varsL x.1).length):=by subst hx;rfl
theorem ck5_eq {L:List Sym} {R l:List Ru} {n:Nat} {x:Ru} (hx:x=l.getD n ([],[])):ckB L R l 5 n=x.1.tail.all (fun n=>!defB L n):=by subst hx;rfl
theorem ck6_eq {L:List Sym} {R l:List Ru} {n:Nat} {x:Ru} (hx:x=l.getD n ([],[])):ckB L R l 6 n=x.2.all (fun n=>!freeB x.1 n):=by subst hx;rfl
theorem Upto.ok1 {L:List Sym} {R l:List Ru} {j n:Nat} (h:Upto L R l (j+2) n) {i:Nat} (hi:i<l.length):checkE L l[i].1=0∧checkE L l[i].2=0:=by
 have:=h.1 1 (by omega) i hi
 simp only [ckB,askB,Bool.and_eq_true,decide_eq_true_eq] at this
 simpa [List.getD,hi] using this
set_option maxHeartbeats 16000000 in
theorem rshapes_any {w:World} {m:Nat} {ro:Option Addr} {rc:Nat} {mo:Option Addr} {mc:Nat} {L:List Sym} {R:List Ru} (h:MR w m ro rc mo mc L R) {lo:Option Addr} {lc:Nat} {l:List Ru} (hl:RsAt w lo l) (hn:l.length≤100) (hu:Upto L R l 3 0) :
  Calls Tryz.prog 118 #[.pointer (some ⟨m,0,none⟩),.slice lo l.length lc] w fun e w' => ∃ ws v,e=.returned v∧PartA L R l 3 7 ws∧WrsAt w' v ws∧Same0 w w' := by
 have hs:Same0 w w:=Kept.refl _ _
 have hu2:Hid (Upto L R l 3 0):=hu
 have hok:∀ i (hi:i<l.length),checkE L l[i].1=0∧checkE L l[i].2=0:=fun i hi=>hu.ok1 hi
 clear hu
 go_enter Tryz.func118,Tryz.ntmps118
 go_wp2
 go_loopw [5] (fun i wr=>∃ n:Nat,n≤l.length∧i=.int .i64 (n:Int)∧Hid (Upto L R l 3 n)∧Same0 w wr) (fun i _=>l.length-(intOf i).toNat)
 case atStart=>exact ⟨0,Nat.zero_le _,rfl,hu2,hs⟩
 case round=>
  clear hs hu2 
  obtain ⟨n,hnl,rfl,hu,hs⟩:=hrel
  by_cases hlt:n<l.length
  ·obtain ⟨lb,off,rfl,hlb,hru⟩:=(hl.same hs).get hlt
   obtain ⟨x,hx0⟩:∃ x,x=l[n]:=⟨_,rfl⟩
   have hxo:=hok n hlt
   rw [← hx0] at hru hxo
   have hx:x=l.getD n ([],[]):=by rw [hx0];simp [List.getD,hlt]
   obtain ⟨ao,ac,bo,bc,r0,r1,A1,A2⟩:=hru
   have i1:(0:Int)≤(n:Int):=by omega
   have i2:(n:Int)<(l.length:Int):=by omega
   have hm1:=h.same hs
   obtain ⟨⟨hp1,hm11⟩,hp2,hm22⟩:=ok_len hxo
   have P0:Hid (ckB L R l 3 n=true→Upto L R l 3 (n+1)):=fun q=>hu.out.step q
   have P1:Hid (ckB L R l 3 n=false→PartA L R l 3 7 [(73,(n:Int))]):=fun q=>.inr ⟨3,n,by omega,by omega,hlt,hu.out,q,rfl⟩
   obtain ⟨ab,ao', rfl,HX⟩:∃ ab ao', ao=some ⟨ab,ao', none⟩∧Hid (∀ ww,Same0 wr ww→ww.cell? ⟨ab,ao', none⟩=some (.int .i64 x.1[0])):=by
    obtain ⟨ab,ao', e,hlt', hc⟩:=A1.at'.get hp1
    exact ⟨ab,ao', e,fun ww hk=>(hk.cell (p:=⟨ab,ao' + 0,none⟩) hlt' (fun f=>f)).trans hc⟩
   have i3:(0:Int)<(x.1.length:Int):=by omega
   have HS:Hid (∀ ww,Same0 wr ww→ww.cell? ⟨m,0,none⟩=some (.slice ro L.length rc)∧ww.cell? ⟨lb,off+n * 2,none⟩=some (.slice (some ⟨ab,ao', none⟩) x.1.length ac)∧ww.cell? ⟨ab,ao', none⟩=some (.int .i64 x.1[0])):=fun ww hk=>⟨cellAt (hm1.same hk).blk 0,(hk.cell (p:=⟨lb,off+n * 2,none⟩) hlb (fun f=>f)).trans r0,HX.out ww hk⟩
   have CC0:=HS.out wr (Kept.refl _ _)
   have W1:Same0 wr wr.drew:=Kept.drew (Kept.refl _ _)
   have C1:Hid (∀ ww,Same0 wr ww→Calls Tryz.prog 41 #[.slice ro L.length rc,.int .i64 x.1[0]] ww fun e w' => e=.returned (.bool (defB L x.1[0]))∧Same0 wr w'):=fun ww hk=>(rdef_any (hm1.same hk).rl x.1[0]).mono (fun e w' ⟨q1,q2⟩=>⟨q1,by rw [q2];exact hk⟩)
   cases hq:defB L x.1[0] with
   | true=>
    have P:=P0.out (by rw [ck3_eq hx hp1,hq])
    have C2:Hid (∀ ww,Same0 wr ww→Calls Tryz.prog 41 #[.slice ro L.length rc,.int .i64 x.1[0]] ww fun e w' => e=.returned (.bool true)∧Same0 wr w'):=by simpa only [hq] using C1
    clear P0 P1 hq hx hx0 hu hm1 A1 A2 C1
    go_wp2
    go_region_held3 (fun w' => w'.cell? ⟨m,0,none⟩=some (.slice ro L.length rc)∧w'.cell? ⟨lb,off+n * 2,none⟩=some (.slice (some ⟨ab,ao', none⟩) x.1.length ac)∧w'.cell? ⟨ab,ao', none⟩=some (.int .i64 x.1[0])) (first | exact cc1 | exact CC0) (first | (go_at_call 41;refine (C2.out _ W1).mono ?_;rintro e w2 ⟨rfl,hw2⟩;have cc1:=HS.out _ hw2))
    all_goals
     go_wp2
     exact ⟨⟨n+1,by omega,by go_num,P,hs.trans' hw2⟩,by simp [intOf];omega⟩
   | false=>
    have P:=P1.out (by rw [ck3_eq hx hp1,hq])
    have C2:Hid (∀ ww,Same0 wr ww→Calls Tryz.prog 41 #[.slice ro L.length rc,.int .i64 x.1[0]] ww fun e w' => e=.returned (.bool false)∧Same0 wr w'):=by simpa only [hq] using C1
    clear P0 P1 hq hx hx0 hu hm1 A1 A2 C1
    go_wp2
    go_region_held3 (fun w' => w'.cell? ⟨m,0,none⟩=some (.slice ro L.length rc)∧w'.cell? ⟨lb,off+n * 2,none⟩=some (.slice (some ⟨ab,ao', none⟩) x.1.length ac)∧w'.cell? ⟨ab,ao', none⟩=some (.int .i64 x.1[0])) (first | exact cc1 | exact CC0) (first | (go_at_call 41;refine (C2.out _ W1).mono ?_;rintro e w2 ⟨rfl,hw2⟩;have cc1:=HS.out _ hw2))
    all_goals
     go_wp2_with (first | (go_at_call 116;refine (rone_any _ _ _).mono ?_;rintro e w3 ⟨v,rfl,hv,hk3⟩))
     go_ret
     exact ⟨_,_,rfl,P,hv,hs.trans' (hw2.trans' hk3)⟩
  ·have hu2:Hid (Upto L R l 4 0):=hu.out.next (by omega)
   have hlt' : ¬ (n:Int)<(l.length:Int):=by omega
   clear hu hlt
   go_wp2
   go_loopw [7] (fun i wr=>∃ n:Nat,n≤l.length∧i=.int .i64 (n:Int)∧Hid (Upto L R l 4 n)∧Same0 w wr) (fun i _=>l.length-(intOf i).toNat)
   case atStart=>exact ⟨0,Nat.zero_le _,rfl,hu2,hs⟩
   case round=>
    clear hs hu2 hlt' hnl
    obtain ⟨n,hnl,rfl,hu,hs⟩:=hrel
    by_cases hlt:n<l.length
    ·obtain ⟨lb,off,rfl,hlb,hru⟩:=(hl.same hs).get hlt
     obtain ⟨x,hx0⟩:∃ x,x=l[n]:=⟨_,rfl⟩
     have hxo:=hok n hlt
     rw [← hx0] at hru hxo
     have hx:x=l.getD n ([],[]):=by rw [hx0];simp [List.getD,hlt]
     obtain ⟨ao,ac,bo,bc,r0,r1,A1,A2⟩:=hru
     have i1:(0:Int)≤(n:Int):=by omega
     have i2:(n:Int)<(l.length:Int):=by omega
     have hm1:=h.same hs
     obtain ⟨⟨hp1,hm11⟩,hp2,hm22⟩:=ok_len hxo
     have P0:Hid (ckB L R l 4 n=true→Upto L R l 4 (n+1)):=fun q=>hu.out.step q
     have P1:Hid (ckB L R l 4 n=false→PartA L R l 3 7 [(74,(n:Int))]):=fun q=>.inr ⟨4,n,by omega,by omega,hlt,hu.out,q,rfl⟩
     have C1:=rlinear_any (ac:=ac) A1.at' hm11
     cases hq:decide (negN x.1=(varsL x.1).length) with
     | true=>
      have P:=P0.out (by rw [ck4_eq hx,hq])
      rw [hq] at C1
      clear P0 P1 hq hx hx0 hu hm1 A1 A2
      go_wp2_with (first | (go_at_call 150;refine C1.mono ?_;rintro e w2 ⟨rfl,hw2⟩))
      exact ⟨⟨n+1,by omega,by go_num,P,hs.trans' hw2⟩,by simp [intOf];omega⟩
     | false=>
      have P:=P1.out (by rw [ck4_eq hx,hq])
      rw [hq] at C1
      clear P0 P1 hq hx hx0 hu hm1 A1 A2
      go_wp2_with (first | (go_at_call 116;refine (rone_any _ _ _).mono ?_;rintro e w3 ⟨v,rfl,hv,hk3⟩) | (go_at_call 150;refine C1.mono ?_;rintro e w2 ⟨rfl,hw2⟩))
      go_ret
      exact ⟨_,_,rfl,P,hv,hs.trans' (hw2.trans' hk3)⟩
    ·have hu2:Hid (Upto L R l 5 0):=hu.out.next (by omega)
     have hlt' : ¬ (n:Int)<(l.length:Int):=by omega
     clear hu hlt
     go_wp2
     go_loopw [9] (fun i wr=>∃ n:Nat,n≤l.length∧i=.int .i64 (n:Int)∧Hid (Upto L R l 5 n)∧Same0 w wr) (fun i _=>l.length-(intOf i).toNat)
     case atStart=>exact ⟨0,Nat.zero_le _,rfl,hu2,hs⟩
     case round=>
      clear hs hu2 hlt' hnl
      obtain ⟨n,hnl,rfl,hu,hs⟩:=hrel
      by_cases hlt:n<l.length
      ·obtain ⟨lb,off,rfl,hlb,hru⟩:=(hl.same hs).get hlt
       obtain ⟨x,hx0⟩:∃ x,x=l[n]:=⟨_,rfl⟩
       have hxo:=hok n hlt
       rw [← hx0] at hru hxo
       have hx:x=l.getD n ([],[]):=by rw [hx0];simp [List.getD,hlt]
       obtain ⟨ao,ac,bo,bc,r0,r1,A1,A2⟩:=hru
       have i1:(0:Int)≤(n:Int):=by omega
       have i2:(n:Int)<(l.length:Int):=by omega
       have hm1:=h.same hs
       obtain ⟨⟨hp1,hm11⟩,hp2,hm22⟩:=ok_len hxo
       have P0:Hid (ckB L R l 5 n=true→Upto L R l 5 (n+1)):=fun q=>hu.out.step q
       have P1:Hid (ckB L R l 5 n=false→PartA L R l 3 7 [(75,(n:Int))]):=fun q=>.inr ⟨5,n,by omega,by omega,hlt,hu.out,q,rfl⟩
       have HS:Hid (∀ ww,Same0 wr ww→ww.cell? ⟨m,0,none⟩=some (.slice ro L.length rc)∧ww.cell? ⟨lb,off+n * 2,none⟩=some (.slice ao x.1.length ac)):=fun ww hk=>⟨cellAt (hm1.same hk).blk 0,(hk.cell (p:=⟨lb,off+n * 2,none⟩) hlb (fun f=>f)).trans r0⟩
       have CC0:=HS.out wr (Kept.refl _ _)
       have W1:Same0 wr wr.drew:=Kept.drew (Kept.refl _ _)
       have C1:Hid (∀ ww,Same0 wr ww→Calls Tryz.prog 151 #[.slice ro L.length rc,.slice ao x.1.length ac] ww fun e w' => e=.returned (.bool (x.1.tail.all (fun n=>!defB L n)))∧Same0 wr w'):=fun ww hk=>(rbelow_any (hm1.same hk).rl (A1.same hk).at' hm11).mono (fun e w' ⟨q1,q2⟩=>⟨q1,by rw [q2];exact hk⟩)
       cases hq:x.1.tail.all (fun n=>!defB L n) with
       | true=>
        have P:=P0.out (by rw [ck5_eq hx,hq])
        have C2:Hid (∀ ww,Same0 wr ww→Calls Tryz.prog 151 #[.slice ro L.length rc,.slice ao x.1.length ac] ww fun e w' => e=.returned (.bool true)∧Same0 wr w'):=by simpa only [hq] using C1
        clear P0 P1 hq hx hx0 hu hm1 A1 A2 C1
        go_wp2
        go_region_held3 (fun w' => w'.cell? ⟨m,0,none⟩=some (.slice ro L.length rc)∧w'.cell? ⟨lb,off+n * 2,none⟩=some (.slice ao x.1.length ac)) (first | exact cc1 | exact CC0) (first | (go_at_call 151;refine (C2.out _ W1).mono ?_;rintro e w2 ⟨rfl,hw2⟩;have cc1:=HS.out _ hw2))
        all_goals
         go_wp2
         exact ⟨⟨n+1,by omega,by go_num,P,hs.trans' hw2⟩,by simp [intOf];omega⟩
       | false=>
        have P:=P1.out (by rw [ck5_eq hx,hq])
        have C2:Hid (∀ ww,Same0 wr ww→Calls Tryz.prog 151 #[.slice ro L.length rc,.slice ao x.1.length ac] ww fun e w' => e=.returned (.bool false)∧Same0 wr w'):=by simpa only [hq] using C1
        clear P0 P1 hq hx hx0 hu hm1 A1 A2 C1
        go_wp2
        go_region_held3 (fun w' => w'.cell? ⟨m,0,none⟩=some (.slice ro L.length rc)∧w'.cell? ⟨lb,off+n * 2,none⟩=some (.slice ao x.1.length ac)) (first | exact cc1 | exact CC0) (first | (go_at_call 151;refine (C2.out _ W1).mono ?_;rintro e w2 ⟨rfl,hw2⟩;have cc1:=HS.out _ hw2))
        all_goals
         go_wp2_with (first | (go_at_call 116;refine (rone_any _ _ _).mono ?_;rintro e w3 ⟨v,rfl,hv,hk3⟩))
         go_ret
         exact ⟨_,_,rfl,P,hv,hs.trans' (hw2.trans' hk3)⟩
      ·have hu2:Hid (Upto L R l 6 0):=hu.out.next (by omega)
       have hlt' : ¬ (n:Int)<(l.length:Int):=by omega
       clear hu hlt
       go_wp2
       go_loopw [11] (fun i wr=>∃ n:Nat,n≤l.length∧i=.int .i64 (n:Int)∧Hid (Upto L R l 6 n)∧Same0 w wr) (fun i _=>l.length-(intOf i).toNat)
       case atStart=>exact ⟨0,Nat.zero_le _,rfl,hu2,hs⟩
       case round=>
        clear hs hu2 hlt' hnl
        obtain ⟨n,hnl,rfl,hu,hs⟩:=hrel
        by_cases hlt:n<l.length
        ·obtain ⟨lb,off,rfl,hlb,hru⟩:=(hl.same hs).get hlt
         obtain ⟨x,hx0⟩:∃ x,x=l[n]:=⟨_,rfl⟩
         have hxo:=hok n hlt
         rw [← hx0] at hru hxo
         have hx:x=l.getD n ([],[]):=by rw [hx0];simp [List.getD,hlt]
         obtain ⟨ao,ac,bo,bc,r0,r1,A1,A2⟩:=hru
         have i1:(0:Int)≤(n:Int):=by omega
         have i2:(n:Int)<(l.length:Int):=by omega
         have hm1:=h.same hs
         obtain ⟨⟨hp1,hm11⟩,hp2,hm22⟩:=ok_len hxo
         have P0:Hid (ckB L R l 6 n=true→Upto L R l 6 (n+1)):=fun q=>hu.out.step q
         have P1:Hid (ckB L R l 6 n=false→PartA L R l 3 7 [(76,(n:Int))]):=fun q=>.inr ⟨6,n,by omega,by omega,hlt,hu.out,q,rfl⟩
         have C1:=rfree_any (ac:=ac) (bc:=bc) A1.at' A2.at' hm11 hm22 (fun n hn=>(badE_zero.1 (checkE_zero.1 hxo.1).2.1 n hn).2) (fun n hn=>(badE_zero.1 (checkE_zero.1 hxo.2).2.1 n hn).2)
         cases hq:x.2.all (fun n=>!freeB x.1 n) with
         | true=>
          have P:=P0.out (by rw [ck6_eq hx,hq])
          rw [hq] at C1
          clear P0 P1 hq hx hx0 hu hm1 A1 A2
          go_wp2_with (first | (go_at_call 152;refine C1.mono ?_;rintro e w2 ⟨rfl,hw2⟩))
          exact ⟨⟨n+1,by omega,by go_num,P,hs.trans' hw2⟩,by simp [intOf];omega⟩
         | false=>
          have P:=P1.out (by rw [ck6_eq hx,hq])
          rw [hq] at C1
          clear P0 P1 hq hx hx0 hu hm1 A1 A2
          go_wp2_with (first | (go_at_call 116;refine (rone_any _ _ _).mono ?_;rintro e w3 ⟨v,rfl,hv,hk3⟩) | (go_at_call 152;refine C1.mono ?_;rintro e w2 ⟨rfl,hw2⟩))
          go_ret
          exact ⟨_,_,rfl,P,hv,hs.trans' (hw2.trans' hk3)⟩
        ·have P:Hid (PartA L R l 3 7 []):=.inl ⟨rfl,hu.out.next (by omega)⟩
         have hlt' : ¬ (n:Int)<(l.length:Int):=by omega
         clear hu hlt
         go_wp2
         go_ret
         exact ⟨_,_,rfl,P.out,wrs_nil _,hs⟩
end Go.Proofs.YtjahpnbijefncaaGreat
namespace Go.Proofs.YtjahpnbijefncaaGreat
set_option linter.unusedVariables false
def kidPairs (L:List Sym) (J:List Int) (p q:Nat):List (Nat × Nat):=((kidsL L J p).zip (kidsL L J q)).reverse
def netF (L:List Sym) (J:List Int):Nat→(Int→Int)→List (Nat × Nat)→Option (Option (Int→Int))
 | 0,_,_=>none
 | _+1,ld,[]=>some (some ld)
 | n+1,ld,(y,x) :: r=>
  if ld x=ld y then netF L J n ld r
  else if ld x<0 then netF L J n (un (ld x) (ld y) ld) r
  else if ld y<0 then netF L J n (un (ld y) (ld x) ld) r
  else if at' J (ld x)≠at' J (ld y) then some none
  else netF L J n (un (ld x) (ld y) ld) (kidPairs L J (ld x).toNat (ld y).toNat++r)
theorem zip_len {α β:Type}:∀ (l:List α) (m:List β),l.length=m.length→(l.zip m).length=l.length
 | [],m,_=>by simp
 | x :: l,[],h=>by simp at h
 | x :: l,y :: m,h=>by simp [zip_len l m (by simpa using h)]
theorem zip_at {l m:List Nat} (h:l.length=m.length) {i:Nat} (hi:i<l.length):(l.zip m)[i]? = some (l[i],m[i]'(by omega)):=by
 rw [List.getElem?_eq_getElem (by rw [zip_len l m h];exact hi),List.getElem_zip]
structure NOk (L:List Sym) (J:List Int) (res:Option (Int→Int)) (k:Nat) (ld:Int→Int) (ps:List (Nat × Nat)):Prop where
 trs:Trs L J
 ok:LdOk J ld
 pairs:∀ r∈ps,r.1<J.length∧r.2<J.length
 eq:netF L J k ld ps=some res
 len:ps.length+(J.length+1) * roots J ld≤(J.length+1) * J.length+1
theorem pairs_lt {L:List Sym} {J:List Int} (hT:Trs L J) {p q:Nat} (hp:p<J.length) (hq:q<J.length):∀ r∈kidPairs L J p q,r.1<J.length∧r.2<J.length:=by
 intro r hr
 unfold kidPairs at hr
 rw [List.mem_reverse] at hr
 obtain ⟨h1,h2⟩:=List.of_mem_zip (show (r.1,r.2)∈_ from hr)
 exact ⟨kids_lt hT hp _ h1,kids_lt hT hq _ h2⟩
theorem starts_le {L:List Sym} {J:List Int}:∀ {k p q:Nat},Forest L J k p q→k≤q-p
 | 0,p,q,h=>Nat.zero_le _
 | k+1,p,q,h=>by
  obtain ⟨h1,h2,h3⟩:=h.succ
  have:=starts_le h3
  have:=h3.le
  omega
theorem pairs_len {L:List Sym} {J:List Int} (hT:Trs L J) {p:Nat} (hp:p<J.length) (q:Nat):(kidPairs L J p q).length≤J.length:=by
 unfold kidPairs
 rw [List.length_reverse,List.length_zip]
 have h1:=starts_le (kids_forest hT hp)
 have h2:=(hT.lt hp).2
 have h3:(kidsL L J p).length=arN L (at' J p):=starts_length _ _ _ _
 omega
theorem NOk.nil {L:List Sym} {J:List Int} {res:Option (Int→Int)} {k:Nat} {ld:Int→Int} (h:NOk L J res k ld []):res=some ld:=by
 have:=h.eq
 cases k with
 | zero=>simp [netF] at this
 | succ k=>simp [netF] at this;exact this.symm
theorem NOk.step {L:List Sym} {J:List Int} {res:Option (Int→Int)} {k:Nat} {ld:Int→Int} {x y:Nat} {ps:List (Nat × Nat)} (h:NOk L J res k ld ((y,x) :: ps)):∃ k', k=k' + 1 ∧
  (ld x=ld y→NOk L J res k' ld ps) ∧
  (ld x≠ld y→ld x<0→NOk L J res k' (un (ld x) (ld y) ld) ps) ∧
  (ld x≠ld y→¬ ld x<0→ld y<0→NOk L J res k' (un (ld y) (ld x) ld) ps) ∧
  (ld x≠ld y→¬ ld x<0→¬ ld y<0→at' J (ld x)≠at' J (ld y)→res=none) ∧
  (ld x≠ld y→¬ ld x<0→¬ ld y<0→at' J (ld x)=at' J (ld y)→NOk L J res k' (un (ld x) (ld y) ld) (kidPairs L J (ld x).toNat (ld y).toNat++ps)):=by
 have heq:=h.eq
 have hlen:=h.len
 obtain ⟨t2,t1⟩:=h.pairs (y,x) (by simp)
 simp only at t1 t2
 have px:=part_nat (J:=J) (p:=x) t1
 have po:=part_nat (J:=J) (p:=y) t2
 have hpx:=h.ok.part _ px
 have hpo:=h.ok.part _ po
 have hlx:=h.ok.idem _ px
 have hlo:=h.ok.idem _ po
 have hr:∀ r∈ps,r.1<J.length∧r.2<J.length:=fun r hr=>h.pairs r (by simp [hr])
 rw [List.length_cons] at hlen
 cases k with
 | zero=>simp [netF] at heq
 | succ k=>
  rw [netF] at heq
  refine ⟨k,rfl,?_,?_,?_,?_,?_⟩
  ·intro h1;rw [if_pos h1] at heq
   exact ⟨h.trs,h.ok,hr,heq,by omega⟩
  ·intro h1 h2
   rw [if_neg h1,if_pos h2] at heq
   have:=Nat.mul_le_mul_left (J.length+1) (roots_le (J:=J) (p:=ld x) hlo h1)
   exact ⟨h.trs,h.ok.un hlx hlo hpo h1 (h.ok.sym _ po) (fun f=>by omega),hr,heq,by omega⟩
  ·intro h1 h2 h3
   have h1' : ld y≠ld x:=fun e=>h1 e.symm
   rw [if_neg h1,if_neg h2,if_pos h3] at heq
   have:=Nat.mul_le_mul_left (J.length+1) (roots_le (J:=J) (p:=ld y) hlx h1')
   exact ⟨h.trs,h.ok.un hlo hlx hpx h1' (h.ok.sym _ px) (fun f=>by omega),hr,heq,by omega⟩
  ·intro h1 h2 h3 h4
   rw [if_neg h1,if_neg h2,if_neg h3,if_pos h4] at heq
   simp at heq;exact heq.symm
  ·intro h1 h2 h3 h4
   rw [if_neg h1,if_neg h2,if_neg h3,if_neg (by simpa using h4)] at heq
   obtain ⟨p,hp⟩:=Int.eq_ofNat_of_zero_le (Int.not_lt.1 h2)
   have hpl:(ld x).toNat<J.length:=by have:=hpx.2;omega
   have hql:(ld y).toNat<J.length:=by have:=hpo.2;omega
   have hlt:=roots_lt (J:=J) (ld:=ld) (p:=p) (q:=ld y) hlo (by rw [← hp];exact h1) (by rw [← hp];exact hlx) (by omega)
   rw [← hp] at hlt
   have h5:=Nat.mul_le_mul_left (J.length+1) (Nat.succ_le_of_lt hlt)
   rw [Nat.succ_eq_add_one,Nat.mul_add,Nat.mul_one] at h5
   have h6:=pairs_len h.trs hpl (ld y).toNat
   refine ⟨h.trs,h.ok.un hlx hlo hpo h1 (h.ok.sym _ po) (fun _=>⟨by omega,h4.symm⟩),?_,heq,by rw [List.length_append];omega⟩
   intro r hr'
   rcases List.mem_append.1 hr' with e | e
   ·exact pairs_lt h.trs hpl hql r e
   ·exact hr r e
theorem net_ends {L:List Sym} {J:List Int} (hT:Trs L J):∀ (n:Nat) (ld:Int→Int) (ps:List (Nat × Nat)),LdOk J ld→(∀ r∈ps,r.1<J.length∧r.2<J.length)→ps.length+(J.length+1) * roots J ld<n→∃ r,netF L J n ld ps=some r:=by
 intro n
 induction n with
 | zero=>intro ld ps _ _ h;omega
 | succ n ih=>
  intro ld ps hl hr hn
  cases ps with
  | nil=>exact ⟨_,rfl⟩
  | cons r ps=>
   obtain ⟨y,x⟩:=r
   have hr2:∀ r∈ps,r.1<J.length∧r.2<J.length:=fun r h=>hr r (by simp [h])
   obtain ⟨t2,t1⟩:=hr (y,x) (by simp)
   simp only at t1 t2
   rw [List.length_cons] at hn
   have px:=part_nat (J:=J) (p:=x) t1
   have po:=part_nat (J:=J) (p:=y) t2
   have hpx:=hl.part _ px
   have hpo:=hl.part _ po
   have hlx:=hl.idem _ px
   have hlo:=hl.idem _ po
   rw [netF]
   by_cases h1:ld x=ld y
   ·rw [if_pos h1];exact ih _ _ hl hr2 (by omega)
   ·rw [if_neg h1]
    have h1' : ld y≠ld x:=fun e=>h1 e.symm
    by_cases h2:ld x<0
    ·rw [if_pos h2]
     have:=Nat.mul_le_mul_left (J.length+1) (roots_le (J:=J) (p:=ld x) hlo h1)
     exact ih _ _ (hl.un hlx hlo hpo h1 (hl.sym _ po) (fun f=>by omega)) hr2 (by omega)
    ·rw [if_neg h2]
     by_cases h3:ld y<0
     ·rw [if_pos h3]
      have:=Nat.mul_le_mul_left (J.length+1) (roots_le (J:=J) (p:=ld y) hlx h1')
      exact ih _ _ (hl.un hlo hlx hpx h1' (hl.sym _ px) (fun f=>by omega)) hr2 (by omega)
     ·rw [if_neg h3]
      by_cases h4:at' J (ld x)≠at' J (ld y)
      ·rw [if_pos h4];exact ⟨_,rfl⟩
      ·rw [if_neg h4]
       have h4:at' J (ld x)=at' J (ld y):=by simpa using h4
       obtain ⟨p,hp⟩:=Int.eq_ofNat_of_zero_le (Int.not_lt.1 h2)
       have hpl:(ld x).toNat<J.length:=by have:=hpx.2;omega
       have hql:(ld y).toNat<J.length:=by have:=hpo.2;omega
       have hlt:=roots_lt (J:=J) (ld:=ld) (p:=p) (q:=ld y) hlo (by rw [← hp];exact h1) (by rw [← hp];exact hlx) (by omega)
       rw [← hp] at hlt
       have h5:=Nat.mul_le_mul_left (J.length+1) (Nat.succ_le_of_lt hlt)
       rw [Nat.succ_eq_add_one,Nat.mul_add,Nat.mul_one] at h5
       have h6:=pairs_len hT hpl (ld y).toNat
       refine ih _ _ (hl.un hlx hlo hpo h1 (hl.sym _ po) (fun _=>⟨by omega,h4.symm⟩)) (fun r hr' => ?_) (by rw [List.length_append];omega)
       rcases List.mem_append.1 hr' with e | e
       ·exact pairs_lt hT hpl hql r e
       ·exact hr2 r e
def InvN (L:List Sym) (J:List Int) (m:Nat) (ld:Int→Int) (ps:List (Nat × Nat)):Prop:=∀ φ:Int→Int,Compat J φ ld→(∀ r∈ps,φ (r.1:Nat)=φ (r.2:Nat))→φ 0=φ m∧∀ P:Nat,P<J.length→0≤at' J P→∀ i,i<arN L (at' J P)→φ (past L J i (P+1):Nat)=φ (past L J i ((ld P).toNat+1):Nat)
theorem kid_pair {L:List Sym} {J:List Int} {p q i:Nat} (h:at' J p=at' J q) (hi:i<arN L (at' J p)):(past L J i (p+1),past L J i (q+1))∈kidPairs L J p q:=by
 unfold kidPairs
 rw [List.mem_reverse]
 have k1:=kids_at (L:=L) (J:=J) (p:=p) hi
 have k2:=kids_at (L:=L) (J:=J) (p:=q) (i:=i) (by rw [← h];exact hi)
 have l1:(kidsL L J p).length=arN L (at' J p):=starts_length _ _ _ _
 have l2:(kidsL L J q).length=arN L (at' J q):=starts_length _ _ _ _
 have hl:(kidsL L J p).length=(kidsL L J q).length:=by rw [l1,l2,h]
 have hz:=zip_at hl (i:=i) (by omega)
 rw [List.getElem?_eq_getElem (by omega),Option.some.injEq] at k1
 rw [List.getElem?_eq_getElem (by omega),Option.some.injEq] at k2
 rw [k1,k2] at hz
 exact List.mem_of_getElem? hz
theorem net_inv {L:List Sym} {J:List Int} {m:Nat}:∀ (n:Nat) (ld:Int→Int) (ps:List (Nat × Nat)) (ldf:Int→Int),NOk L J (some ldf) n ld ps→InvN L J m ld ps→LdOk J ldf∧InvN L J m ldf []:=by
 intro n
 induction n with
 | zero=>intro ld ps ldf h _;have:=h.eq;simp [netF] at this
 | succ n ih=>
  intro ld ps ldf h hI
  cases ps with
  | nil=>
   have:=h.nil
   simp only [Option.some.injEq] at this
   rw [this];exact ⟨h.ok,hI⟩
  | cons r ps=>
   obtain ⟨y,x⟩:=r
   obtain ⟨k', hk', S1,S2,S3,S4,S5⟩:=h.step
   obtain ⟨t2,t1⟩:=h.pairs (y,x) (by simp)
   simp only at t1 t2
   have px:=part_nat (J:=J) (p:=x) t1
   have po:=part_nat (J:=J) (p:=y) t2
   have hpx:=h.ok.part _ px
   have hpo:=h.ok.part _ po
   have hlx:=h.ok.idem _ px
   have hlo:=h.ok.idem _ po
   obtain rfl:k' = n:=by omega
   have rest:∀ (φ:Int→Int),Compat J φ ld→φ (ld x)=φ (ld y)→(∀ r∈ps,φ (r.1:Nat)=φ (r.2:Nat))→∀ r∈(y,x) :: ps,φ (r.1:Nat)=φ (r.2:Nat):=by
    intro φ hc he hp r hr
    rcases List.mem_cons.1 hr with e | e
    ·rw [e]
     simp only
     rw [← hc x px,← hc y po,he]
    ·exact hp r e
   by_cases h1:ld x=ld y
   ·exact ih _ _ _ (S1 h1) (fun φ hc hp=>hI φ hc (rest φ hc (by rw [h1]) hp))
   ·by_cases h2:ld x<0
    ·refine ih _ _ _ (S2 h1 h2) (fun φ hc hp=>?_)
     obtain ⟨e,hc'⟩:=compat_un h.ok hpx hlx hc
     obtain ⟨a1,a2⟩:=hI φ hc' (rest φ hc' e hp)
     refine ⟨a1,fun P hP hs i hi=>?_⟩
     have hl:=(h.ok.like P (part_nat hP) (by omega) hs).1
     have:un (ld x) (ld y) ld P=ld P:=by unfold un;rw [if_neg (by omega)]
     rw [this];exact a2 P hP hs i hi
    ·by_cases h3:ld y<0
     ·refine ih _ _ _ (S3 h1 h2 h3) (fun φ hc hp=>?_)
      obtain ⟨e,hc'⟩:=compat_un h.ok hpo hlo hc
      obtain ⟨a1,a2⟩:=hI φ hc' (rest φ hc' e.symm hp)
      refine ⟨a1,fun P hP hs i hi=>?_⟩
      have hl:=(h.ok.like P (part_nat hP) (by omega) hs).1
      have:un (ld y) (ld x) ld P=ld P:=by unfold un;rw [if_neg (by omega)]
      rw [this];exact a2 P hP hs i hi
     ·by_cases h4:at' J (ld x)=at' J (ld y)
      ·refine ih _ _ _ (S5 h1 h2 h3 h4) (fun φ hc hp=>?_)
       obtain ⟨e,hc'⟩:=compat_un h.ok hpx hlx hc
       obtain ⟨a1,a2⟩:=hI φ hc' (rest φ hc' e (fun r hr=>hp r (by simp [hr])))
       refine ⟨a1,fun P hP hs i hi=>?_⟩
       by_cases f:ld P=ld x
       ·have e1:un (ld x) (ld y) ld P=ld y:=by unfold un;rw [if_pos f]
        have h5:=a2 P hP hs i hi
        rw [f] at h5
        rw [h5,e1]
        have hl:=(h.ok.like P (part_nat hP) (by omega) hs)
        rw [f] at hl
        have c1:(((ld x).toNat:Nat):Int)=ld x:=by omega
        have c2:(((ld y).toNat:Nat):Int)=ld y:=by omega
        exact hp (past L J i ((ld x).toNat+1),past L J i ((ld y).toNat+1)) (List.mem_append.2 (.inl (kid_pair (by rw [c1,c2];exact h4) (by rw [c1,hl.2];exact hi))))
       ·have e1:un (ld x) (ld y) ld P=ld P:=by unfold un;rw [if_neg f]
        rw [e1];exact a2 P hP hs i hi
      ·have:=S4 h1 h2 h3 h4;cases this
theorem net_var {L:List Sym} {J:List Int} {P:Nat}:∀ (n:Nat) (ld:Int→Int) (ps:List (Nat × Nat)) (ldf:Int→Int),NOk L J (some ldf) n ld ps→ld P=ld (at' J P)→ldf P=ldf (at' J P):=by
 have hun:∀ (p q:Int) (ld:Int→Int),ld P=ld (at' J P)→un p q ld P=un p q ld (at' J P):=fun p q ld e=>by unfold un;rw [e]
 intro n
 induction n with
 | zero=>intro ld ps ldf h _;have:=h.eq;simp [netF] at this
 | succ n ih=>
  intro ld ps ldf h hI
  cases ps with
  | nil=>
   have:=h.nil
   simp only [Option.some.injEq] at this
   rw [this];exact hI
  | cons r ps=>
   obtain ⟨y,x⟩:=r
   obtain ⟨k', hk', S1,S2,S3,S4,S5⟩:=h.step
   obtain rfl:k' = n:=by omega
   by_cases h1:ld x=ld y
   ·exact ih _ _ _ (S1 h1) hI
   ·by_cases h2:ld x<0
    ·exact ih _ _ _ (S2 h1 h2) (hun _ _ _ hI)
    ·by_cases h3:ld y<0
     ·exact ih _ _ _ (S3 h1 h2 h3) (hun _ _ _ hI)
     ·by_cases h4:at' J (ld x)=at' J (ld y)
      ·exact ih _ _ _ (S5 h1 h2 h3 h4) (hun _ _ _ hI)
      ·have:=S4 h1 h2 h3 h4;cases this
theorem closed_net {L:List Sym} {J:List Int} {m n:Nat} {ldf:Int→Int} (h:NOk L J (some ldf) n (ld0 J) [(0,m)]):Closed L J m ldf:=by
 have st:InvN L J m (ld0 J) [(0,m)]:=by
  intro φ hc hp
  refine ⟨hp (0,m) (by simp),fun P hP hs i hi=>?_⟩
  have:ld0 J (P:Int)=P:=by unfold ld0;rw [if_neg (by omega)]
  rw [this,Int.toNat_natCast]
 obtain ⟨hl,hI⟩:=net_inv _ _ _ _ h st
 obtain ⟨a1,a2⟩:=hI ldf (fun x hx=>hl.idem x hx) (by simp)
 refine ⟨h.trs,hl,a1,a2,fun P hP hs=>?_⟩
 refine net_var _ _ _ _ h ?_
 have e1:ld0 J (P:Int)=at' J P:=by unfold ld0;rw [if_pos ⟨by omega,hs⟩]
 have e2:ld0 J (at' J P)=at' J P:=by unfold ld0;rw [if_neg (by omega)]
 rw [e1,e2]
theorem net_least {X:Type} {L:List Sym} {J:List Int} {val:Int→X} (hin:Inj L J val):∀ (n:Nat) (ld:Int→Int) (ps:List (Nat × Nat)) (res:Option (Int→Int)),NOk L J res n ld ps→(∀ x,UPart J x→val (ld x)=val x)→(∀ r∈ps,val (r.1:Nat)=val (r.2:Nat))→∃ ldf,res=some ldf∧∀ x,UPart J x→val (ldf x)=val x:=by
 intro n
 induction n with
 | zero=>intro ld ps res h;have:=h.eq;simp [netF] at this
 | succ n ih=>
  intro ld ps res h hv hp
  cases ps with
  | nil=>exact ⟨ld,h.nil,hv⟩
  | cons r ps=>
   obtain ⟨y,x⟩:=r
   have hp2:∀ r∈ps,val (r.1:Nat)=val (r.2:Nat):=fun r hr=>hp r (by simp [hr])
   obtain ⟨k', hk', S1,S2,S3,S4,S5⟩:=h.step
   obtain ⟨t2,t1⟩:=h.pairs (y,x) (by simp)
   simp only at t1 t2
   have px:=part_nat (J:=J) (p:=x) t1
   have po:=part_nat (J:=J) (p:=y) t2
   have hpx:=h.ok.part _ px
   have hpo:=h.ok.part _ po
   obtain rfl:k' = n:=by omega
   have hxo:val y=val x:=hp (y,x) (by simp)
   have hpp:val (ld x)=val (ld y):=by rw [hv x px,hv y po,hxo]
   have hun:∀ p q:Int,val p=val q→∀ x,UPart J x→val (un p q ld x)=val x:=by
    intro p q e x hx
    unfold un
    split
    ·rename_i f;rw [← e,← f];exact hv x hx
    ·exact hv x hx
   by_cases h1:ld x=ld y
   ·exact ih _ _ _ (S1 h1) hv hp2
   ·by_cases h2:ld x<0
    ·exact ih _ _ _ (S2 h1 h2) (hun _ _ hpp) hp2
    ·by_cases h3:ld y<0
     ·exact ih _ _ _ (S3 h1 h2 h3) (hun _ _ hpp.symm) hp2
     ·have hpl:(ld x).toNat<J.length:=by have:=hpx.2;omega
      have hql:(ld y).toNat<J.length:=by have:=hpo.2;omega
      have c1:(((ld x).toNat:Nat):Int)=ld x:=by omega
      have c2:(((ld y).toNat:Nat):Int)=ld y:=by omega
      have hh:=hin (ld x).toNat (ld y).toNat hpl hql (by rw [c1];exact h.ok.sym x px (by omega)) (by rw [c2];exact h.ok.sym y po (by omega)) (by rw [c1,c2];exact hpp)
      have hh1:at' J (ld x)=at' J (ld y):=by have:=hh.1;rwa [c1,c2] at this
      refine ih _ _ _ (S5 h1 h2 h3 hh1) (hun _ _ hpp) (fun r hr=>?_)
      rcases List.mem_append.1 hr with e | e
      ·unfold kidPairs at e
       rw [List.mem_reverse] at e
       obtain ⟨i,hi,he⟩:=List.getElem_of_mem e
       rw [List.getElem_zip] at he
       have l1:(kidsL L J (ld x).toNat).length=arN L (at' J ((ld x).toNat:Nat)):=starts_length _ _ _ _
       rw [List.length_zip] at hi
       have hi1:i<arN L (at' J ((ld x).toNat:Nat)):=by omega
       have k1:=kids_at (L:=L) (J:=J) (p:=(ld x).toNat) hi1
       have k2:=kids_at (L:=L) (J:=J) (p:=(ld y).toNat) (i:=i) (by rw [c2,← hh1,← c1];exact hi1)
       rw [List.getElem?_eq_getElem (by omega),Option.some.injEq] at k1
       rw [List.getElem?_eq_getElem (by omega),Option.some.injEq] at k2
       rw [k1,k2] at he
       rw [← he]
       exact hh.2 i hi1
      ·exact hp2 r e
end Go.Proofs.YtjahpnbijefncaaGreat
