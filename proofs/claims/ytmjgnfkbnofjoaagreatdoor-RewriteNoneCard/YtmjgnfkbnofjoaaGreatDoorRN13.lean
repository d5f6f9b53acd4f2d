import Derived.WalkKit
import Derived.Test.YtmjgnfkbnofjoaaGreatDoorRN12
namespace Go.Proofs.YtmjgnfkbnofjoaaGreatDoor
open Go.Proofs.Tryz
set_option maxRecDepth 100000
set_option linter.unusedVariables false
set_option maxHeartbeats 16000000
variable {ap:Bool} {a b ys:List Int} {R l:List Ru} {L:List Sym} {ac base bc j0 j1 k m n q size tb:Nat} {B B':Nat->Prop} {ao bo ro:Option Addr} {x:Ru} {s:St9} {T:TypeId} {lv rv v vi vp:Value} {w:World}
section
open Go.RowKit
attribute [local go_sem ↓] Go.wp_at_zero Go.wp_at_succ
def SolQ (L:List Sym) (ap:Bool) (T J:List Int) (la:Nat) (w:World) (e:Ending) (w' : World):Prop:=Za w w' ∧ (nsF L J la=none->e=.returned (.tuple #[.pointer none,.int .i64 0]))∧∀ ld k,nsF L J la=some (ld,k)->∃ B,e=.returned (.tuple #[.pointer (some ⟨B.nb,0,none⟩),.int .i64 k])∧NAt L ap B w' T J ld∧B.top<=w'.heap.size
theorem Zzf (ap:Bool):∃ k:Nat,apI ap=(k:Int)∧k<=99:=by cases ap;exact ⟨0,rfl,by omega⟩;exact ⟨99,rfl,by omega⟩
theorem Zxv {p:Nat} (hp:p<(jl a b (apI ap)).length) (h:0<=at' (jl a b (apI ap)) p):at' (a++b) p=at' (jl a b (apI ap)) p:=by
 have hl:p<a.length+b.length:=by simpa [jl] using hp
 have e:=at_jl (ap:=ap) hl;have h0:0<=apI ap:=by unfold apI;split <;> omega
 rw [e] at h ⊢
 by_cases q:at' (a++b) p<0∧a.length<=p
 ·rw [if_pos q] at h;omega
 ·rw [if_neg q]
theorem Zo5 (hca:Zd L a=0) (hcb:Zd L b=0) (cL:Calls prog 225 #[rv,.slice ao a.length ac,.slice bo b.length bc,.bool ap] w (Zlu w L ap a b)) :
  Calls prog 193 #[rv,.slice ao a.length ac,.slice bo b.length bc,.bool ap] w (SolQ L ap (a++b) (jl a b (apI ap)) a.length w):=by
 obtain ⟨i0,hi0,hz0,hz1,hz2⟩:=info_parts Zdo;obtain ⟨a1,a2,a3⟩:=Ze.1 hca;obtain ⟨b1,b2,b3⟩:=Ze.1 hcb;have p1:=Z2 a3;have p2:=Z2 b3;obtain ⟨k9,hk9,hk99⟩:=Zzf ap;have hap0:0<=apI ap:=by omega
 have hT:=Zcq (apart:=apI ap) hap0 a3 b3;have hv:∀ x∈jl a b (apI ap), -198<=x:=by rw [hk9];exact Zi8 hca hcb hk99
 obtain ⟨cl0,ρ0,hr0⟩:=Zyv (ap:=ap) (λ x hx=>((Zr.1 a2) x hx).2) (λ x hx=>((Zr.1 b2) x hx).2);have hsy:∀ p:Nat,p<(jl a b (apI ap)).length->0<=at' (jl a b (apI ap)) p->at' (a++b) p=at' (jl a b (apI ap)) p:=λ p hp h=>Zxv hp h;unfold Zlu at cL;obtain ⟨J,hJ⟩:∃ J,jl a b (apI ap)=J:=⟨_,rfl⟩;obtain ⟨T,hTT⟩:∃ T,a++b=T:=⟨_,rfl⟩;have hJl:J.length=a.length+b.length:=by rw [<- hJ];simp [jl]
 rw [hJ] at hT hv hr0 cL hsy ⊢;rw [hTT] at hr0 cL hsy ⊢;obtain ⟨up0', hup0⟩:∃ u,up0 ap (a.length+b.length) a.length T=u:=⟨_,rfl⟩;obtain ⟨rep0', hrep0⟩:∃ u,Zfh (a.length+b.length) T=u:=⟨_,rfl⟩;rw [hup0,hrep0] at hr0 cL;obtain ⟨la,hla⟩:∃ la,a.length=la:=⟨_,rfl⟩;obtain ⟨lb,hlb⟩:∃ lb,b.length=lb:=⟨_,rfl⟩;rw [hla] at cL hJl a1 p1 ⊢;rw [hlb] at cL hJl b1 p2 ⊢;obtain ⟨res,hN,hR1,hR2⟩:=Zh1 hT hv (m:=la) (by omega) (by omega)
 have CJ:Hid (∀ B w1,NC L B w1 T J up0' rep0' -> B.top<=w1.heap.size->Calls prog 226 #[.pointer (some ⟨B.nb,0,none⟩),.int .i64 0,.int .i64 (la:Int)] w1 (NEnd L ap B T J res w1)):=by
  intro B w1 h1 h2;exact Zsv (a:=0) (m:=la) ⟨_,_,_,_,h1,hr0⟩ (by omega) hsy h2 hN
 clear hr0 hsy hup0 hrep0 hla hlb hJ hTT hk9 hca hcb a2 b2 a3 b3;cases res with
 | none=>
  have HX:Hid (∀ w', Za w w' -> SolQ L ap T J la w (.returned (.tuple #[.pointer none,.int .i64 0])) w'):=by
   intro w' hk;refine ⟨hk,λ _=>rfl,λ ld k e=>?_⟩;rw [hR1 rfl] at e;cases e
  clear hN hR1 hR2 hT hv
  go_enter func193,ntmps193
  go_wp2_with (first | (go_at_call 225;refine cL.mono ?_;rintro e w1 ⟨B,rfl,hC1,ht1,hk1,hu1,hb1⟩) | (go_at_call 226;refine (CJ.out B w1 hC1 ht1).mono ?_;rintro e w2 ⟨-,hj2,hk2⟩;obtain rfl:=hj2 rfl))
  go_ret2
  exact HX.out _ (hk1.trans hk2 (λ q hq f=>by rcases f with f | f <;> omega))
 | some ld=>
  obtain ⟨hcl,k,sz', hs,hk1,hk2⟩:=hR2 ld rfl;obtain ⟨M,hM⟩:∃ M,J.length+200=M:=⟨_,rfl⟩
  have hm1:∀ w:World,(Instr.makeSlice 51 (.int .i64 (M:Int)) (.int .i64 (M:Int))).run prog w=.ok (.slice (some ⟨w.heap.size,0,none⟩) M M) (w.alloc (.cells (madeCells #[.int .i64 0] M) 3)):=λ w=>by
   have:=run_make w 51 3 i0 _ underlying51 hi0 hz0 .i64 .i64 (M:Int) (M:Int) (by omega) (by omega) (by rw [hz2];omega) (by omega)
   simpa [hz1,Value.cells] using this
  have CS:Hid (∀ B w2 up rep cl ρ,NC L B w2 T J up rep->NR ap J up rep cl ρ ld->B.top<=w2.heap.size->Calls prog 227 #[.pointer (some ⟨B.nb,0,none⟩),.slice (some ⟨w2.heap.size,0,none⟩) M M,.int .i64 0] (w2.alloc (.cells (madeCells #[.int .i64 0] M) 3)) (Znq ap J rep cl w2.heap.size (w2.alloc (.cells (madeCells #[.int .i64 0] M) 3)) k sz')):=by
   intro B w2 up rep cl ρ h1 h2 h3;subst hM;exact Ztj hT hcl.ok (by omega) h2 h3 _ _ _ _ 0 k sz' (h1.same (Zc.alloc (Zc.refl _ w2) _)) (Zwr w2 (J.length+200)) (λ c _ _=>⟨λ p _=>rfl,λ _=>.inl rfl⟩) (by omega) (λ p=>.inr ⟨by simp,by simp⟩) hs
  have C3:Hid (∀ B w2 up rep,NC L B w2 T J up rep->w2.cell? ⟨B.nb,3,none⟩=some (.slice (some ⟨B.ub,0,none⟩) M B.uc)):=by
   intro B w2 up rep h1;rw [<- hM];exact h1.cells.2.2.1
  have K4:Hid (∀ (B:NB) (w1 w2 w4:World),Za w w1->Zc B.Two w1 w2->w.heap.size<=B.ub->w.heap.size<=B.rb->Zc (λ q=>q=w2.heap.size) (w2.alloc (.cells (madeCells #[.int .i64 0] M) 3)) w4->Za w w4):=by
   intro B w1 w2 w4 q1 q2 q3 q4 q5;have s1:=q1.size;have s2:=q2.size;have k2:Za w w2:=q1.trans q2 (λ q hq f=>by rcases f with f | f <;> omega);exact (k2.trans' (Zc.alloc (Zc.refl _ w2) _)).trans q5 (λ q hq f=>by omega)
  by_cases hkk:k = -1
  ·have HX:Hid (∀ w', Za w w' -> SolQ L ap T J la w (.returned (.tuple #[.pointer none,.int .i64 0])) w'):=by
    intro w' hk;refine ⟨hk,λ _=>rfl,λ ld k e=>?_⟩;rw [hk1 hkk] at e;cases e
   have CS2:Hid (∀ B w2 up rep cl ρ,NC L B w2 T J up rep->NR ap J up rep cl ρ ld->B.top<=w2.heap.size->Calls prog 227 #[.pointer (some ⟨B.nb,0,none⟩),.slice (some ⟨w2.heap.size,0,none⟩) M M,.int .i64 0] (w2.alloc (.cells (madeCells #[.int .i64 0] M) 3)) λ e w4=>e=.returned (.int .i64 (-2))∧Zc (λ q=>q=w2.heap.size) (w2.alloc (.cells (madeCells #[.int .i64 0] M) 3)) w4):=by
    intro B w2 up rep cl ρ h1 h2 h3;refine (CS.out B w2 up rep cl ρ h1 h2 h3).mono ?_;rintro e w4 ⟨q1,mz', _,_,q4⟩;rw [if_pos hkk] at q1;exact ⟨q1,q4⟩
   clear hN hR1 hR2 hT hv CS hs hcl hk1 hk2 hM hkk
   go_enter func193,ntmps193
   go_wp2_with (first | (go_at_call 225;refine cL.mono ?_;rintro e w1 ⟨B,rfl,hC1,ht1,hk1,hu1,hb1⟩) | (go_at_call 226;refine (CJ.out B w1 hC1 ht1).mono ?_;rintro e w2 ⟨hj2, -,hk2⟩;obtain ⟨rfl,up2,rep2,cl2,ρ2,hC2,hr2⟩:=hj2 ld rfl;have c3:=C3.out B w2 up2 rep2 hC2;have ht2:=Nat.le_trans ht1 hk2.size) | (go_at_call 227;refine (CS2.out B w2 up2 rep2 cl2 ρ2 hC2 hr2 ht2).mono ?_;rintro e w4 ⟨rfl,hk4⟩))
   go_ret2
   exact HX.out _ (K4.out B w1 w2 _ hk1 hk2 hu1 hb1 hk4)
  ·obtain ⟨e1,u,hu,hku⟩:=hk2 hkk
   have hpos:0<=k:=by omega
   have HX:Hid (∀ B w', Za w w' -> NAt L ap B w' T J ld->B.top<=w'.heap.size->SolQ L ap T J la w (.returned (.tuple #[.pointer (some ⟨B.nb,0,none⟩),.int .i64 k])) w'):=by
    intro B w' q1 q2 q3;refine ⟨q1,λ e=>(by rw [e1] at e;cases e),λ ld' k' e=>?_⟩;rw [e1] at e;simp only [Option.some.injEq,Prod.mk.injEq] at e;obtain ⟨rfl,rfl⟩:=e;exact ⟨B,rfl,q2,q3⟩
   have CS2:Hid (∀ B w2 up rep cl ρ,NC L B w2 T J up rep->NR ap J up rep cl ρ ld->B.top<=w2.heap.size->Calls prog 227 #[.pointer (some ⟨B.nb,0,none⟩),.slice (some ⟨w2.heap.size,0,none⟩) M M,.int .i64 0] (w2.alloc (.cells (madeCells #[.int .i64 0] M) 3)) λ e w4=>e=.returned (.int .i64 k)∧NAt L ap B w4 T J ld∧B.top<=w4.heap.size∧Zc (λ q=>q=w2.heap.size) (w2.alloc (.cells (madeCells #[.int .i64 0] M) 3)) w4):=by
    intro B w2 up rep cl ρ h1 h2 h3;refine (CS.out B w2 up rep cl ρ h1 h2 h3).mono ?_;rintro e w4 ⟨q1,mz', _,_,q4⟩;rw [if_neg hkk] at q1;have h1' := h1.same (Zc.alloc (Zc.refl _ w2) (.cells (madeCells #[.int .i64 0] M) 3));refine ⟨q1,⟨up,rep,cl,ρ,h1'.kept q4 (λ q hq f=>by omega),h2⟩,?_,q4⟩;have:=q4.size;rw [World.size_alloc] at this;omega
   clear hN hR1 hR2 hT hv CS hs hcl hk1 hk2 hM hku hu e1
   go_enter func193,ntmps193
   go_wp2_with (first | (go_at_call 225;refine cL.mono ?_;rintro e w1 ⟨B,rfl,hC1,ht1,hk1,hu1,hb1⟩) | (go_at_call 226;refine (CJ.out B w1 hC1 ht1).mono ?_;rintro e w2 ⟨hj2, -,hk2⟩;obtain ⟨rfl,up2,rep2,cl2,ρ2,hC2,hr2⟩:=hj2 ld rfl;have c3:=C3.out B w2 up2 rep2 hC2;have ht2:=Nat.le_trans ht1 hk2.size) | (go_at_call 227;refine (CS2.out B w2 up2 rep2 cl2 ρ2 hC2 hr2 ht2).mono ?_;rintro e w4 ⟨rfl,hA4,ht4,hk4⟩))
   go_ret2
   exact HX.out B _ (K4.out B w1 w2 _ hk1 hk2 hu1 hb1 hk4) hA4 ht4
theorem Zow (hca:Zd L a=0) (hcb:Zd L b=0) (cS:Calls prog 193 #[rv,.slice ao a.length ac,.slice bo b.length bc,.bool true] w (SolQ L true (a++b) (jl a b (apI true)) a.length w)) :
  Calls prog 139 #[rv,.slice ao a.length ac,.slice bo b.length bc] w λ e w' => e=.returned (.bool (Zbc L a b))∧Za w w' := by
 obtain ⟨a1,a2,a3⟩:=Ze.1 hca;obtain ⟨b1,b2,b3⟩:=Ze.1 hcb;have p1:=Z2 a3;have p2:=Z2 b3;have hT:=Zcq (apart:=(99:Int)) (by omega) a3 b3;have hv:∀ x∈jl a b 99, -198<=x:=Zi8 hca hcb (ap:=99) (by omega);have hJl:(jl a b 99).length=a.length+b.length:=by simp [jl]
 obtain ⟨n1,n2⟩:=Zvg (ap:=99) (by omega) hca hcb;obtain ⟨res,hN,hR1,hR2⟩:=Zh1 hT hv (m:=a.length) (by omega) (by omega);have e0:apI true=99:=rfl;rw [e0] at cS;have ec:Zco L a b=0:=by unfold Zco;rw [if_neg (by rw [hca];simp),hcb]
 cases hs:nsF L (jl a b 99) a.length with
 | none=>
  have hs2:=n1 hs;have e1:Zbc L a b=true:=by unfold Zbc;rw [ec,show Zc0 L (jl a b 99) a.length=none from hs2];rfl
  rw [e1];have cS2:Calls prog 193 #[rv,.slice ao a.length ac,.slice bo b.length bc,.bool true] w λ e w' => e=.returned (.tuple #[.pointer none,.int .i64 0])∧Za w w' := cS.mono (λ e w' g=>⟨g.2.1 hs,g.1⟩)
  clear cS e1 hR1 hR2 hN n1 n2 hT hv hs ec e0 hs2
  go_enter func139,ntmps139
  go_wp2_with ((go_at_call 193;refine cS2.mono ?_;rintro e w1 ⟨rfl,hk1⟩))
  go_ret;exact ⟨rfl,hk1⟩
 | some r=>
  obtain ⟨ld,k⟩:=r
  have hfull:J3 L (jl a b 99) a.length ld∧∃ u,Val L (jl a b 99) ld 0 u∧k=min (u.length:Int) 2001:=by
   cases res with
   | none=>rw [hR1 rfl] at hs;cases hs
   | some ld' =>
    obtain ⟨g1,k', sz', g2,g3,g4⟩:=hR2 ld' rfl
    by_cases e:k' = -1
    ·rw [g3 e] at hs;cases hs
    ·obtain ⟨f1,f2⟩:=g4 e
     rw [f1] at hs;simp only [Option.some.injEq,Prod.mk.injEq] at hs;obtain ⟨rfl,rfl⟩:=hs;exact ⟨g1,f2⟩
  obtain ⟨hcl,u,hu,hku⟩:=hfull;obtain ⟨v,⟨ld2,k2,hsol,_⟩,hvl,hwr⟩:=n2 ld k u hs hcl hu;have p0:Z0 (jl a b 99) 0:=Zm (p:=0) (by omega);have hupos:=Z2 (hu.isT hT hcl.ok p0);have hk0:¬ k=0:=by omega
  have e1:Zbc L a b=false:=by unfold Zbc;rw [show Zc0 L (jl a b 99) a.length=some (ld2,k2) from hsol];simp
  rw [e1];have cS2:Calls prog 193 #[rv,.slice ao a.length ac,.slice bo b.length bc,.bool true] w λ e w' => (∃ B:NB,e=.returned (.tuple #[.pointer (some ⟨B.nb,0,none⟩),.int .i64 k]))∧Za w w' := cS.mono (λ e w' g=>⟨(g.2.2 ld k hs).imp (λ B h=>h.1),g.1⟩)
  clear cS e1 hR1 hR2 hN n1 n2 hT hv hs ec e0 hcl hu hku hwr hsol
  go_enter func139,ntmps139
  go_wp2_with ((go_at_call 193;refine cS2.mono ?_;rintro e w1 ⟨⟨B,rfl⟩,hk1⟩))
  go_ret;exact ⟨by simp [hk0],hk1⟩
def KA (L:List Sym) (J:List Int) (m:Nat):List (List Int):=(List.range m).map (λ p=>(Zl L J p).map (λ k:Nat=>(k:Int)))
theorem Zsp (L:List Sym) (J:List Int) (m:Nat):KA L J (m+1)=KA L J m ++ [(Zl L J m).map (λ k:Nat=>(k:Int))]:=by
 unfold KA;rw [List.range_succ,List.map_append];rfl
theorem Zm5 (L:List Sym) (J:List Int) (m:Nat):(KA L J m).length=m:=by simp [KA]
def Zcc (far:Int) (k:Nat) (ys:List Int):List Int:=(ys.take k).map (λ x=>x+far)++ys.drop k
theorem Zar (far:Int) (k:Nat) (ys:List Int):(Zcc far k ys).length=ys.length:=by simp [Zcc];omega
theorem Zn7 {far:Int} (hk:k<ys.length):(Zcc far k ys).set k (ys[k]+far)=Zcc far (k+1) ys:=by
 unfold Zcc;have l1:((ys.take k).map (λ x=>x+far)).length=k:=by simp;omega
 rw [List.set_append_right _ _ (by omega),l1,Nat.sub_self,List.drop_eq_getElem_cons hk,List.set_cons_zero,List.take_add_one,List.getElem?_eq_getElem hk,List.map_append];simp
theorem Znn {far:Int} (hk:k<ys.length):(Zcc far k ys)[k]? = some ys[k]:=by
 unfold Zcc;have l1:((ys.take k).map (λ x=>x+far)).length=k:=by simp;omega
 rw [List.getElem?_append_right (by omega),l1,Nat.sub_self,List.drop_eq_getElem_cons hk];rfl
def Kt (N k m la:Nat) (ap:Bool) (T:List Int):List Int:=(List.range m).map (λ i=>if i<k then (up0 ap N la T i:Int) else (i:Int))
def Zax (N:Nat) (T:List Int) (m:Nat):List Int:=(List.range m).map (Zfh N T)
theorem Zam (N k m la:Nat) (ap:Bool) (T:List Int):(Kt N k m la ap T).length=m:=by simp [Kt]
theorem Zbr (N:Nat) (T:List Int) (m:Nat):(Zax N T m).length=m:=by simp [Zax]
theorem Zsu (N m la:Nat) (ap:Bool) (T:List Int):Kt N 0 (m+1) la ap T=Kt N 0 m la ap T ++ [(m:Int)]:=by
 unfold Kt;rw [List.range_succ,List.map_append];simp
theorem Ze2 (N:Nat) (T:List Int) (m:Nat):Zax N T (m+1)=Zax N T m ++ [Zfh N T m]:=by
 unfold Zax;rw [List.range_succ,List.map_append];rfl
theorem Zyx (N:Nat) (T:List Int) (m i:Nat) (h:i<m):at' (Zax N T m) i=Zfh N T i:=by
 rw [Yl _ _ (by rw [Zbr];exact h)];unfold Zax;simp
theorem Zy2 (N k m la:Nat) (ap:Bool) (T:List Int) (i:Nat) (h:i<m):at' (Kt N k m la ap T) i=if i<k then (up0 ap N la T i:Int) else (i:Int):=by
 rw [Yl _ _ (by rw [Zam];exact h)];unfold Kt;simp
theorem Znx (N k m la:Nat) (ap:Bool) (T:List Int) (h:k<m):Kt N (k+1) m la ap T=(Kt N k m la ap T).set k (up0 ap N la T k:Int):=by
 apply List.ext_getElem?;intro i;unfold Kt
 by_cases e:k=i
 ·subst e
  rw [List.getElem?_set_self (by simpa using h),List.getElem?_map,List.getElem?_range h];simp
 ·rw [List.getElem?_set_ne e,List.getElem?_map,List.getElem?_map]
  by_cases hi:i<m
  ·rw [List.getElem?_range hi]
   simp only [Option.map_some,Option.some.injEq]
   by_cases f:i<k
   ·rw [if_pos f,if_pos (by omega)]
   ·rw [if_neg f,if_neg (by omega)]
  ·rw [List.getElem?_eq_none (by simp;omega)];rfl
theorem Zsg (N k m la:Nat) (ap:Bool) (T:List Int) (h:up0 ap N la T k=k):Kt N (k+1) m la ap T=Kt N k m la ap T:=by
 unfold Kt;apply List.map_congr_left;intro i _
 by_cases f:i<k
 ·rw [if_pos f,if_pos (by omega)]
 ·rw [if_neg f]
  by_cases e:i=k
  ·subst e;rw [if_pos (by omega),h]
  ·rw [if_neg (by omega)]
theorem Zj1 (h:n<=98):IntKind.i64.wrap (IntKind.i64.wrap (-(-(n:Int)-1))-1)=(n:Int):=by
 have small:∀ x:Int,0<=x->x<=1000->IntKind.i64.wrap x=x:=by
  intro x h0 h1;unfold IntKind.wrap;simp [IntKind.signed,IntKind.bits];omega
 rw [small (-(-(n:Int)-1)) (by omega) (by omega),small _ (by omega) (by omega)];omega
theorem Zri:(prog.info? 51).map (λ i=>(i.zero,i.size,i.bytes))=some (some (.slice none 0 0),1,24):=by kernel_rfl
theorem Zvp {nn:Nat} (h:Rl nn w rv L) (ha:Zh w ao a) (hb:Zh w bo b) (hca:Zd L a=0) (hcb:Zd L b=0) (ap:Bool) :
  Calls prog 225 #[rv,.slice ao a.length ac,.slice bo b.length bc,.bool ap] w (Zlu w L ap a b):=by
 obtain ⟨i0,hi0,hz0,hz1,hz2⟩:=info_parts Zdo;obtain ⟨j0,hj0,hy0,hy1,hy2⟩:=info_parts Zri;obtain ⟨a1,a2,a3⟩:=Ze.1 hca;obtain ⟨b1,b2,b3⟩:=Ze.1 hcb;obtain ⟨ro,rc,rfl⟩:=Zf h.1;obtain ⟨N,hN⟩:∃ N,a.length+b.length=N:=⟨_,rfl⟩;obtain ⟨J,hJ⟩:∃ J,jl a b (apI ap)=J:=⟨_,rfl⟩;obtain ⟨T,hT⟩:∃ T,a++b=T:=⟨_,rfl⟩;have hap0:0<=apI ap:=by unfold apI;split <;> omega
 have hJl:J.length=N:=by rw [<- hJ,<- hN];simp [jl]
 have hTl:T.length=N:=by rw [<- hT,<- hN];simp
 have nN:(a.length:Int)+(b.length:Int)=(N:Int):=by omega
 have nA:(a.length:Int)<=2000:=by omega
 have nB:(b.length:Int)<=2000:=by omega
 have KAa:Hid (∀ i,i<a.length->Zl L J i=Z8 L a i):=λ i hi=>by rw [<- hJ];exact kids_a hap0 a3 hi
 have KAb:Hid (∀ i,i<b.length->Zl L J (a.length+i)=(Z8 L b i).map (λ x=>a.length+x)):=λ i hi=>by rw [<- hJ];exact kids_b hap0 b3 hi
 have L0:LS w ((w.alloc (.cells #[.slice ro L.length rc,.slice none 0 0,.slice none 0 0,.slice none 0 0,.slice none 0 0] 341)).alloc (.cells #[.slice ao a.length ac,.slice bo b.length bc] 74)) (.slice ro L.length rc) (.slice ao a.length ac) (.slice bo b.length bc) (λ _=>.slice none 0 0) (.slice none 0 0) (tri [] [] []) []:=by
  have k1:Za w (w.alloc (.cells #[.slice ro L.length rc,.slice none 0 0,.slice none 0 0,.slice none 0 0,.slice none 0 0] 341)):=(Zc.refl _ w).alloc _;have k2:Za (w.alloc (.cells #[.slice ro L.length rc,.slice none 0 0,.slice none 0 0,.slice none 0 0,.slice none 0 0] 341)) ((w.alloc (.cells #[.slice ro L.length rc,.slice none 0 0,.slice none 0 0,.slice none 0 0,.slice none 0 0] 341)).alloc (.cells #[.slice ao a.length ac,.slice bo b.length bc] 74)):=Zal9;refine ⟨⟨λ i _=>?_,λ i j _ _ _ q e=>by simp [Value.ownBlock] at e,λ i _ q e=>by simp [Value.ownBlock] at e,[],World.ownsRow_nil _ _ _ _,λ j hj=>by simp at hj⟩,k2.at0 (heap_alloc_new _ _),?_,k1.trans' k2,by rw [World.size_alloc,World.size_alloc];omega⟩
  ·have:tri [] [] [] i=[]:=by unfold tri;split <;> (try split) <;> rfl
   rw [this];exact World.ownsRow_nil _ _ _ _
  ·have:=heap_alloc_new (w.alloc (.cells #[.slice ro L.length rc,.slice none 0 0,.slice none 0 0,.slice none 0 0,.slice none 0 0] 341)) (.cells #[.slice ao a.length ac,.slice bo b.length bc] 74)
   rwa [World.size_alloc] at this
 have hLM:Zlu w L ap a b=λ e w' => ∃ B,e=.returned (.pointer (some ⟨B.nb,0,none⟩))∧NC L B w' T J (up0 ap N a.length T) (Zfh N T)∧B.top<=w'.heap.size∧Za w w' ∧ w.heap.size<=B.ub∧w.heap.size<=B.rb:=by
  unfold Zlu;rw [hT,hJ,hN]
 have HLM:Hid (Zlu w L ap a b=λ e w' => ∃ B,e=.returned (.pointer (some ⟨B.nb,0,none⟩))∧NC L B w' T J (up0 ap N a.length T) (Zfh N T)∧B.top<=w'.heap.size∧Za w w' ∧ w.heap.size<=B.ub∧w.heap.size<=B.rb):=hLM;have HT:Hid (a++b=T∧a.length+b.length=N):=⟨hT,hN⟩
 have HLOW:Hid (∀ i:Nat,i<N -> -99<=at' T i):=by
  intro i hi;have ei:i<(a++b).length:=by simp;omega
  rw [<- hT,Yl _ _ ei]
  rcases List.mem_append.1 (List.getElem_mem ei) with e | e
  ·exact ((Zr.1 a2) _ e).2
  ·exact ((Zr.1 b2) _ e).2
 have HPOS:Hid (0<N):=by
  have:0<a.length:=by
   cases a with
   | nil=>exact absurd a3 (by unfold IsT;intro f;cases f)
   | cons x r=>simp
  show 0<N;omega
 clear hLM hJ hT hN hca hcb
 go_enter func225,ntmps225
 go_wp2_with fail
 obtain ⟨w1,hw1⟩:∃ w1,((w.alloc (.cells #[.slice ro L.length rc,.slice none 0 0,.slice none 0 0,.slice none 0 0,.slice none 0 0] 341)).alloc (.cells #[.slice ao a.length ac,.slice bo b.length bc] 74))=w1:=⟨_,rfl⟩;rw [hw1] at L0 ⊢;clear hw1
 go_loopw [12] (λ s12 wr=>∃ (wv:Nat) (vs:Nat->Value) (va:Value),s12=.int .i64 (wv:Int)∧wv<=2∧LS w wr (.slice ro L.length rc) (.slice ao a.length ac) (.slice bo b.length bc) vs va (tri (T.take (if wv=0 then 0 else if wv=1 then a.length else N)) [] []) (KA L J (if wv=0 then 0 else if wv=1 then a.length else N))) (λ s12 _=>2-(intOf s12).toNat)
 case atStart=>exact ⟨0,_,_,rfl,by omega,by simpa [KA] using L0⟩
 case round=>
  clear L0;obtain ⟨wv,vs,va,rfl,hwv,hLS⟩:=hrel
  rcases (show wv=0∨wv=1∨wv=2 by omega) with rfl | rfl | rfl
  ·-- the term number 0
   have LSx:LS w wr (.slice ro L.length rc) (.slice ao a.length ac) (.slice bo b.length bc) vs va (tri (T.take 0) [] []) (KA L J 0):=hLS;clear hLS
   go_wp2_with fail
   go_loopw [14] (λ s14 wr=>∃ (i:Nat) (vs:Nat->Value) (va:Value),s14=.int .i64 (i:Int)∧i<=a.length∧LS w wr (.slice ro L.length rc) (.slice ao a.length ac) (.slice bo b.length bc) vs va (tri (T.take (0+i)) [] []) (KA L J (0+i))) (λ s14 _=>a.length-(intOf s14).toNat)
   case atStart=>exact ⟨0,vs,va,rfl,Nat.zero_le _,LSx⟩
   case round=>
    clear LSx;obtain ⟨i,vs,va,rfl,hi,hLS⟩:=hrel;obtain ⟨c1,c2,c3,c4,c5,c6,c7⟩:=hLS.cells
    by_cases hlt:i<a.length
    ·obtain ⟨m,hm⟩:∃ m,0+i=m:=⟨_,rfl⟩
     rw [hm] at hLS;have hmT:m<T.length:=by have:=HT.out.2;omega
     have hTm:T[m]=a[i]:=by
      have e:=HT.out.1;subst hm;simp only [<- e];rw [List.getElem_append_left (by omega)];congr 1;omega
     have hXr:=ha.same hLS.kept;have cA:=Zbu (cap:=ac) (h.same hLS.kept) hXr a1 a3 i hlt;obtain ⟨ys,hys⟩:∃ ys,ofN (Z8 L a i)=ys:=⟨_,rfl⟩
     have hkid:(Zl L J m).map (λ k:Nat=>(k:Int))=ys.map (λ x=>x+(0:Int)):=by
      rw [<- hm,<- hys];rw [Nat.zero_add,KAa.out i hlt];simp [ofN]
     have hyb:∀ y∈ys,0<=y∧y<=2000:=by
      intro y hy;rw [<- hys] at hy;unfold ofN at hy;obtain ⟨k,hk,rfl⟩:=List.mem_map.1 hy;rw [Z9 hlt] at hk;have:=Zby (Zs.one a3 hlt).kids.2 k hk;omega
     rw [hys] at cA;have z1:(0:Int)<=(i:Int):=by omega
     have z2:(i:Int)<(a.length:Int):=by omega
     have z3:(i:Int)<=2000:=by omega
     have z4:(0:Int)<=(a.length:Int):=by omega
     have HKID:Hid ((Zl L J m).map (λ k:Nat=>(k:Int))=ys.map (λ x=>x+(0:Int))∧ofN (Z8 L a i)=ys):=⟨hkid,hys⟩;have HYB:Hid (∀ y∈ys,0<=y∧y<=2000):=hyb;have HTM:Hid (T[m]=a[i]):=hTm;clear hkid hys hyb hTm
     go_upto_region 12 with ((go_at_call 194;refine cA.mono ?_;rintro e w5 ⟨v5,rfl,hr5,hk5⟩))
     obtain ⟨go,gc,hv5⟩:=Zf hr5;subst hv5;have hL5:=hLS.same hk5;have hsz:=hk5.size;obtain ⟨n,hn⟩:∃ n,ys.length=n:=⟨_,rfl⟩;rw [hn] at hr5 ⊢;clear cA;obtain ⟨B5,hB5⟩:∃ B5,wr.heap.size=B5:=⟨_,rfl⟩
     have HV:Hid (w.heap.size+2<=B5∧∀ q,B5<=q->va.ownBlock≠some q∧∀ i,i<3->(vs i).ownBlock≠some q):=by
      refine ⟨by rw [<- hB5];exact hLS.big,λ q hq=>⟨λ e=>?_,λ j hj e=>?_⟩⟩
      ·obtain ⟨cs,g1,_⟩:=hLS.fam.ar
       have:=(World.ownsRow.lt g1 q e).2;omega
      ·have:=(World.ownsRow.lt (hLS.fam.rows j hj) q e).2;omega
     rw [hB5] at hr5 hsz;have HB5:Hid (wr.heap.size=B5):=hB5;clear hB5
     go_wp2_with fail
     go_loopw [16] (λ s16 wx=>∃ k:Nat,s16=.int .i64 (k:Int)∧k<=n∧Row B5 wx (.slice go n gc) (Zcc (0:Int) k ys)∧Za wr wx) (λ s16 _=>n-(intOf s16).toNat)
     case atStart=>exact ⟨0,rfl,Nat.zero_le _,by simpa [Zcc] using hr5,hk5⟩
     case round=>
      clear hr5 hL5 hk5;obtain ⟨k,rfl,hk,hr5,hk5⟩:=hrel
      by_cases hkn:k<n
      ·have hky:k<ys.length:=by omega
       obtain ⟨g5,cap5,hv5,hg1,hg2⟩:=World.ownsRow.form hr5 (by rw [Zar];omega);simp only [Value.slice.injEq] at hv5;obtain ⟨rfl,_,rfl⟩:=hv5
       have hr5:wr.ownsRow B5 3 1 (.slice (some ⟨g5,0,none⟩) n gc) n (iv (Zcc (0:Int) k ys)):=by
        have:=hr5;unfold Row at this;rw [Zar,hn] at this;exact this
       have hgc:=hr5.cellAt k (by omega);rw [show (iv (Zcc (0:Int) k ys))[k]? = some (.int .i64 ys[k]) by unfold iv;rw [List.getElem?_map,Znn hky];rfl] at hgc;have hgf:=hr5.frozenAt k;obtain ⟨hy1', hy2'⟩:=HYB.out ys[k] (List.getElem_mem _);have hst:=(hr5.stored k (.int .i64 (ys[k]+(0:Int)))).1
       have hst2:Row B5 (wr.setCell ⟨g5,k,none⟩ (.int .i64 (ys[k]+(0:Int)))) (.slice (some ⟨g5,0,none⟩) n gc) (Zcc (0:Int) (k+1) ys):=by
        have e1:(iv (Zcc (0:Int) k ys)).set k (.int .i64 (ys[k]+(0:Int)))=iv (Zcc (0:Int) (k+1) ys):=by
         unfold iv;rw [<- List.map_set,Zn7 hky]
        rw [e1] at hst;have e2:n=(Zcc (0:Int) (k+1) ys).length:=by rw [Zar,hn]
        unfold Row;rw [<- e2];exact hst
       have hk6:Za _ (wr.setCell ⟨g5,k,none⟩ (.int .i64 (ys[k]+(0:Int)))):=Zc.setCell (p:=⟨g5,k,none⟩) hk5 (λ hq=>by have:=HB5.out;simp only at hq;omega) _;obtain ⟨yk,hyk⟩:∃ yk,ys[k]=yk:=⟨_,rfl⟩;rw [hyk] at hgc hy1' hy2' hst2 hk6;have q1:(0:Int)<=(k:Int):=by omega
       have q2:(k:Int)<(n:Int):=by omega
       have q3:(k:Int)<4000:=by
        have:=HKID.out.2;have h1:=J1 (Zs.one a3 hlt).kids.2;have h2:=(Xs a3 hlt).2;have h3:ys.length=arN L a[i]:=by rw [<- this];unfold ofN;rw [List.length_map,Z9 hlt,Zk]
        omega
       clear hst hyk hr5
       go_wp2_with fail
       go_roundw
       case rel=>exact ⟨k+1,by go_num,by omega,by first | exact hst2 | (rw [Int.add_zero] at hst2;exact hst2),by first | exact hk6 | (rw [Int.add_zero] at hk6;exact hk6)⟩
       case measure=>simp [intOf];omega
      ·have hke:k=n:=by omega
       have q2:¬ (k:Int)<(n:Int):=by omega
       have hr6:Row B5 wr (.slice go n gc) ((Zl L J m).map (λ k:Nat=>(k:Int))):=by
        rw [HKID.out.1]
        have:Zcc (0:Int) k ys=ys.map (λ x=>x+(0:Int)):=by
         unfold Zcc;rw [hke,<- hn,List.take_length,List.drop_length,List.append_nil]
        rw [<- this];exact hr5
       have hL6:LS w wr (.slice ro L.length rc) (.slice ao a.length ac) (.slice bo b.length bc) vs va (tri (T.take m) [] []) (KA L J m):=hLS.same hk5;obtain ⟨c1,c2,c3,c4,c5,c6,c7⟩:=hL6.cells;obtain ⟨z,hz⟩:∃ z,T[m]=z:=⟨_,rfl⟩;obtain ⟨to', tcap,hv0⟩:=Zf (hL6.fam.rows 0 (by omega));have hl0:(tri (T.take m) [] [] 0).length=m:=by show (T.take m).length=m;rw [List.length_take];omega
       rw [hl0] at hv0
       have hrow0:wr.ownsRow (w.heap.size+2) 3 1 (vs 0) m (iv (T.take m)):=by
        have h0:wr.ownsRow (w.heap.size+2) 3 1 (vs 0) (tri (T.take m) [] [] 0).length (iv (T.take m)):=hL6.fam.rows 0 (by omega);rw [hl0] at h0;exact h0
       rw [hv0] at c1 hrow0;have hn1:m+1<=maxLen:=by unfold maxLen;omega
       have hn2:(m+1) * 8<=140737488355328:=by omega
       have hb9:w.heap.size+2<=(wr.alloc (.cells #[.int .i64 z] 3)).drew.heap.size:=by
        show _<=(wr.alloc (.cells #[.int .i64 z] 3)).heap.size;rw [World.size_alloc];have:=hL6.big;omega
       have PE:Hid (∀ gg cap' w9,w9.ownsRow (w.heap.size+2) 3 1 (.slice (some ⟨gg,0,none⟩) (m+1) cap') (m+1) (iv (T.take m) ++ [.int .i64 z])->(wr.alloc (.cells #[.int .i64 z] 3)).drew.grownBy w9 (Value.slice to' m tcap).ownBlock->((Value.slice to' m tcap).ownBlock=some gg∨gg=(wr.alloc (.cells #[.int .i64 z] 3)).drew.heap.size)->LS w (w9.setCell ⟨w.heap.size,1,none⟩ (.slice (some ⟨gg,0,none⟩) (m+1) cap')) (.slice ro L.length rc) (.slice ao a.length ac) (.slice bo b.length bc) (λ j=>if j=0 then .slice (some ⟨gg,0,none⟩) (m+1) cap' else vs j) va (tri (T.take (m+1)) [] []) (KA L J m)∧w9.cell? ⟨w.heap.size,1,none⟩=some (vs 0)∧w9.frozen? ⟨w.heap.size,1,none⟩=false∧Zc (λ q=>q=w.heap.size∨(vs 0).ownBlock=some q) wr (w9.setCell ⟨w.heap.size,1,none⟩ (.slice (some ⟨gg,0,none⟩) (m+1) cap'))∧∀ q,(Value.slice go n gc).ownBlock=some q->q≠gg):=by
        intro gg cap' w9 q1 q2 q3;rw [<- hv0] at q2 q3;have kd:Za wr (wr.alloc (.cells #[.int .i64 z] 3)).drew:=Zc.drew (Zc.alloc (Zc.refl _ wr) _);obtain ⟨r1,r2,r3⟩:=hL6.push (i:=0) (s:=1) (by omega) rfl hl0 kd q1 q2 q3 kd.size (xs' := tri (T.take (m+1)) [] []) (by show T.take (m+1)=T.take m ++ [z];rw [List.take_add_one,List.getElem?_eq_getElem hmT,hz];rfl) (λ j _ e=>by unfold tri;rw [if_neg e,if_neg e]);refine ⟨r1,r2,r3,?_,λ q e f=>?_⟩
        rotate_left
        ·subst f
         rcases q3 with g | g
         ·exact (HV.out.2 q (Xr hr6 e)).2 0 (by omega) g
         ·have h1:=(World.ownsRow.lt hr6 q e).2
          have h2:wr.heap.size+1=(wr.alloc (.cells #[.int .i64 z] 3)).drew.heap.size:=(World.size_alloc _ _).symm;omega
        have kg:Zc (λ q=>q=w.heap.size∨(vs 0).ownBlock=some q) wr w9:=Zc.grown (Zc.mono kd (λ _ _ f=>f.elim)) q2 (λ q e _=>.inr e);exact Zc.setCell (p:=⟨w.heap.size,1,none⟩) kg (λ _=>.inl rfl) _
       have P7:Hid (∀ (gg cap' : Nat) (w8:World) (vs' : Nat->Value),LS w w8 (.slice ro L.length rc) (.slice ao a.length ac) (.slice bo b.length bc) vs' va (tri (T.take (m+1)) [] []) (KA L J m)->Row (w.heap.size+2) w8 (.slice go n gc) ((Zl L J m).map (λ k:Nat=>(k:Int)))->(∀ q,(Value.slice go n gc).ownBlock=some q->va.ownBlock≠some q∧∀ i,i<3->(vs' i).ownBlock≠some q)->∃ cs vO vC,va=.slice vO m vC∧w8.ownsRow (w.heap.size+2) 51 1 (.slice vO m vC) m cs∧∀ (gg cap' : Nat) (w9:World),w9.ownsRow (w.heap.size+2) 51 1 (.slice (some ⟨gg,0,none⟩) (m+1) cap') (m+1) (cs ++ [.slice go n gc])->(w8.alloc (.cells #[.slice go n gc] 51)).grownBy w9 (Value.slice vO m vC).ownBlock->((Value.slice vO m vC).ownBlock=some gg∨gg=(w8.alloc (.cells #[.slice go n gc] 51)).heap.size)->LS w (w9.setCell ⟨w.heap.size,2,none⟩ (.slice (some ⟨gg,0,none⟩) (m+1) cap')) (.slice ro L.length rc) (.slice ao a.length ac) (.slice bo b.length bc) vs' (.slice (some ⟨gg,0,none⟩) (m+1) cap') (tri (T.take (m+1)) [] []) (KA L J (m+1))∧w9.cell? ⟨w.heap.size,2,none⟩=some va∧w9.frozen? ⟨w.heap.size,2,none⟩=false):=by
        intro _ _ w8 vs' h1 h2 h3;obtain ⟨cs,hcs1,_⟩:=h1.fam.ar;rw [Zm5] at hcs1;obtain ⟨vO,vC,hva⟩:=Zf hcs1;refine ⟨cs,vO,vC,hva,hva ▸ hcs1,?_⟩;intro gg cap' w9 q1 q2 q3;rw [Zsp];rw [<- hva] at q2 q3;have kd:Za w8 (w8.alloc (.cells #[.slice go n gc] 51)):=Zc.alloc (Zc.refl _ w8) _;exact h1.more (Zm5 _ _ _) h2 h3 hcs1 kd q1 q2 q3 kd.size
       have hrow8:Hid (∀ w8,Zc (λ q=>q=w.heap.size∨(vs 0).ownBlock=some q) wr w8->Row (w.heap.size+2) w8 (.slice go n gc) ((Zl L J m).map (λ k:Nat=>(k:Int)))):=by
        intro w8 hk8;refine (hk8.row (Yy hr6 HV.out.1) (λ q e=>?_));have:=Xr hr6 e;rintro (f | f)
        ·have:=HV.out.1;omega
        ·exact (HV.out.2 q this).2 0 (by omega) f
       have hX6:=ha.same hL6.kept;obtain ⟨xb,xof,hxo,hx1,hx2⟩:=hX6.get hlt;rw [<- HTM.out,hz] at hx2;rw [hxo] at c5
       have c1a:(wr.alloc (.cells #[.int .i64 z] 3)).drew.cell? ⟨w.heap.size,1,none⟩=some (.slice to' m tcap):=by
        have:=(hL6.same (Zc.drew (Zc.alloc (Zc.refl _ wr) (.cells #[.int .i64 z] 3)))).cells.1;rw [this,hv0]
       have VA:Hid (∀ gg,(∀ q,(Value.slice go n gc).ownBlock=some q->q≠gg)->∀ (cap' q:Nat),(Value.slice go n gc).ownBlock=some q->va.ownBlock≠some q∧∀ i,i<3->((λ j=>if j=0 then Value.slice (some ⟨gg,0,none⟩) (m+1) cap' else vs j) i).ownBlock≠some q):=by
        intro gg hf cap' q e;obtain ⟨x1,x2⟩:=HV.out.2 q (Xr hr6 e);refine ⟨x1,λ i hi=>?_⟩
        by_cases ei:i=0
        ·simp only [ei,if_true,Value.ownBlock]
         intro f;simp only [Option.some.injEq] at f;exact hf q e f.symm
        ·simp only [ei,if_false];exact x2 i hi
       clear hL6 hXr hX6 hLS hr5 hr6 hl0 hv0 hxo hke
       go_upto_region 16 with fail
       go_cut [] from 70 to 85 (λ wc=>∃ gg cap', LS w wc (.slice ro L.length rc) (.slice ao a.length ac) (.slice bo b.length bc) (λ j=>if j=0 then .slice (some ⟨gg,0,none⟩) (m+1) cap' else vs j) va (tri (T.take (m+1)) [] []) (KA L J m)∧Zc (λ q=>q=w.heap.size∨(vs 0).ownBlock=some q) wr wc∧∀ q,(Value.slice go n gc).ownBlock=some q->q≠gg)
       case first=>
        clear P7 VA hrow8
        go_region_law (refine step_append_lies _ (by rfl) _ _ 51 (by rfl) (w.heap.size+2) 3 i0 _ 1 8 underlying51 hi0 hz0 hz1 hz2 rfl (by omega) (.slice to' m tcap) m (iv (T.take m)) (by rfl) ((hrow0.alloc _).drew) ⟨wr.heap.size,0,none⟩ 1 1 [.int .i64 z] (by rfl) (by rfl) (World.news_of_block (cs:=#[.int .i64 z]) (t:=3) (fr:=(0,0)) (heap_alloc_new wr _)) (by simp [Value.oneCell']) (by omega) hn1 hn2 hb9 _ rfl ?_;intro gg cap' w9 hown hgrow hat hlt9;obtain ⟨p1,p2,p3,p4,p5⟩:=PE.out gg cap' w9 hown hgrow hat)
        all_goals
         go_wp2_with fail
         go_meet;exact ⟨gg,cap', p1,p4,p5⟩
       case rest=>
        obtain ⟨gg,cap', hL7,hK7,hf7⟩:=hcut;obtain ⟨cs,vO,vC,hva,hrow8', P8⟩:=P7.out 0 0 wc _ hL7 (hrow8.out wc hK7) (VA.out gg hf7 cap');clear P7 VA hrow8 PE c1a hrow0 hb9 c1 c2 c3 c4 c5 c6 c7;obtain ⟨c1,c2,c3,c4,c5,c6,c7⟩:=hL7.cells;rw [hva] at c2;have PE:Hid (∀ (gg cap' : Nat) (w9:World),w9.ownsRow (w.heap.size+2) 51 1 (.slice (some ⟨gg,0,none⟩) (m+1) cap') (m+1) (cs ++ [.slice go n gc])->(wc.alloc (.cells #[.slice go n gc] 51)).grownBy w9 (Value.slice vO m vC).ownBlock->((Value.slice vO m vC).ownBlock=some gg∨gg=(wc.alloc (.cells #[.slice go n gc] 51)).heap.size)->_):=P8
        have hb9:w.heap.size+2<=(wc.alloc (.cells #[.slice go n gc] 51)).heap.size:=by
         rw [World.size_alloc];have:=hL7.big;omega
        have hn3:(m+1) * 24<=140737488355328:=by omega
        clear P8 hL7 hK7 hva
        go_wp2_with ((at_builtin;refine wpList_append_lies _ rfl _ _ 50 rfl (w.heap.size+2) 51 j0 _ 1 24 underlying50 hj0 hy0 hy1 hy2 rfl (by omega) (.slice vO m vC) m cs rfl (hrow8'.alloc _) ⟨wc.heap.size,0,none⟩ 1 1 [.slice go n gc] rfl rfl (World.news_of_block (cs:=#[.slice go n gc]) (t:=51) (fr:=(0,0)) (heap_alloc_new wc _)) (by simp [Value.oneCell']) (by omega) hn1 hn3 hb9 _ rfl ?_;intro gg' cap'' w9 hown hgrow hat hlt9;obtain ⟨p1,p2,p3⟩:=PE.out gg' cap'' w9 hown hgrow hat))
        go_roundw
        case rel=>
         refine ⟨i+1,by omega,by omega,(λ j=>if j=0 then .slice (some ⟨gg,0,none⟩) (m+1) cap' else vs j),.slice (some ⟨gg', 0,none⟩) (m+1) cap'', ?_⟩
         first | (rw [show 0+(i+1)=m+1 by omega];exact p1) | (rw [show i+1=m+1 by omega];exact p1)
        case measure=>simp [intOf];omega
    ·have hie:i=a.length:=by omega
     have q2:¬ (i:Int)<(a.length:Int):=by omega
     have hL8:LS w wr (.slice ro L.length rc) (.slice ao a.length ac) (.slice bo b.length bc) vs va (tri (T.take (if 0+1=0 then 0 else if 0+1=1 then a.length else N)) [] []) (KA L J (if 0+1=0 then 0 else if 0+1=1 then a.length else N)):=by
      have e1:(if 0+1=0 then 0 else if 0+1=1 then a.length else N)=0+i:=by have:=HT.out.2;simp;omega
      rw [e1];exact hLS
     clear hLS
     go_wp2_with fail
     go_roundw
     case rel=>first | exact ⟨0+1,vs,va,by go_num,by omega,hL8⟩ | exact ⟨0+1,by first | rfl | omega | simp,by omega,vs,va,hL8⟩
     case measure=>simp [intOf]
  ·-- the term number 1
   have LSx:LS w wr (.slice ro L.length rc) (.slice ao a.length ac) (.slice bo b.length bc) vs va (tri (T.take a.length) [] []) (KA L J a.length):=hLS;clear hLS
   go_wp2_with fail
   go_loopw [14] (λ s14 wr=>∃ (i:Nat) (vs:Nat->Value) (va:Value),s14=.int .i64 (i:Int)∧i<=b.length∧LS w wr (.slice ro L.length rc) (.slice ao a.length ac) (.slice bo b.length bc) vs va (tri (T.take (a.length+i)) [] []) (KA L J (a.length+i))) (λ s14 _=>b.length-(intOf s14).toNat)
   case atStart=>exact ⟨0,vs,va,rfl,Nat.zero_le _,LSx⟩
   case round=>
    clear LSx;obtain ⟨i,vs,va,rfl,hi,hLS⟩:=hrel;obtain ⟨c1,c2,c3,c4,c5,c6,c7⟩:=hLS.cells
    by_cases hlt:i<b.length
    ·obtain ⟨m,hm⟩:∃ m,a.length+i=m:=⟨_,rfl⟩
     rw [hm] at hLS;have hmT:m<T.length:=by have:=HT.out.2;omega
     have hTm:T[m]=b[i]:=by
      have e:=HT.out.1;subst hm;simp only [<- e];rw [List.getElem_append_right (by omega)];congr 1;omega
     have hXr:=hb.same hLS.kept;have cA:=Zbu (cap:=bc) (h.same hLS.kept) hXr b1 b3 i hlt;obtain ⟨ys,hys⟩:∃ ys,ofN (Z8 L b i)=ys:=⟨_,rfl⟩
     have hkid:(Zl L J m).map (λ k:Nat=>(k:Int))=ys.map (λ x=>x+(a.length:Int)):=by
      rw [<- hm,<- hys];rw [KAb.out i hlt];unfold ofN;rw [List.map_map,List.map_map];apply List.map_congr_left;intro k _;simp only [Function.comp_apply];omega
     have hyb:∀ y∈ys,0<=y∧y<=2000:=by
      intro y hy;rw [<- hys] at hy;unfold ofN at hy;obtain ⟨k,hk,rfl⟩:=List.mem_map.1 hy;rw [Z9 hlt] at hk;have:=Zby (Zs.one b3 hlt).kids.2 k hk;omega
     rw [hys] at cA;have z1:(0:Int)<=(i:Int):=by omega
     have z2:(i:Int)<(b.length:Int):=by omega
     have z3:(i:Int)<=2000:=by omega
     have z4:(0:Int)<=(a.length:Int):=by omega
     have HKID:Hid ((Zl L J m).map (λ k:Nat=>(k:Int))=ys.map (λ x=>x+(a.length:Int))∧ofN (Z8 L b i)=ys):=⟨hkid,hys⟩;have HYB:Hid (∀ y∈ys,0<=y∧y<=2000):=hyb;have HTM:Hid (T[m]=b[i]):=hTm;clear hkid hys hyb hTm
     go_upto_region 12 with ((go_at_call 194;refine cA.mono ?_;rintro e w5 ⟨v5,rfl,hr5,hk5⟩))
     obtain ⟨go,gc,hv5⟩:=Zf hr5;subst hv5;have hL5:=hLS.same hk5;have hsz:=hk5.size;obtain ⟨n,hn⟩:∃ n,ys.length=n:=⟨_,rfl⟩;rw [hn] at hr5 ⊢;clear cA;obtain ⟨B5,hB5⟩:∃ B5,wr.heap.size=B5:=⟨_,rfl⟩
     have HV:Hid (w.heap.size+2<=B5∧∀ q,B5<=q->va.ownBlock≠some q∧∀ i,i<3->(vs i).ownBlock≠some q):=by
      refine ⟨by rw [<- hB5];exact hLS.big,λ q hq=>⟨λ e=>?_,λ j hj e=>?_⟩⟩
      ·obtain ⟨cs,g1,_⟩:=hLS.fam.ar
       have:=(World.ownsRow.lt g1 q e).2;omega
      ·have:=(World.ownsRow.lt (hLS.fam.rows j hj) q e).2;omega
     rw [hB5] at hr5 hsz;have HB5:Hid (wr.heap.size=B5):=hB5;clear hB5
     go_wp2_with fail
     go_loopw [16] (λ s16 wx=>∃ k:Nat,s16=.int .i64 (k:Int)∧k<=n∧Row B5 wx (.slice go n gc) (Zcc (a.length:Int) k ys)∧Za wr wx) (λ s16 _=>n-(intOf s16).toNat)
     case atStart=>exact ⟨0,rfl,Nat.zero_le _,by simpa [Zcc] using hr5,hk5⟩
     case round=>
      clear hr5 hL5 hk5;obtain ⟨k,rfl,hk,hr5,hk5⟩:=hrel
      by_cases hkn:k<n
      ·have hky:k<ys.length:=by omega
       obtain ⟨g5,cap5,hv5,hg1,hg2⟩:=World.ownsRow.form hr5 (by rw [Zar];omega);simp only [Value.slice.injEq] at hv5;obtain ⟨rfl,_,rfl⟩:=hv5
       have hr5:wr.ownsRow B5 3 1 (.slice (some ⟨g5,0,none⟩) n gc) n (iv (Zcc (a.length:Int) k ys)):=by
        have:=hr5;unfold Row at this;rw [Zar,hn] at this;exact this
       have hgc:=hr5.cellAt k (by omega);rw [show (iv (Zcc (a.length:Int) k ys))[k]? = some (.int .i64 ys[k]) by unfold iv;rw [List.getElem?_map,Znn hky];rfl] at hgc;have hgf:=hr5.frozenAt k;obtain ⟨hy1', hy2'⟩:=HYB.out ys[k] (List.getElem_mem _);have hst:=(hr5.stored k (.int .i64 (ys[k]+(a.length:Int)))).1
       have hst2:Row B5 (wr.setCell ⟨g5,k,none⟩ (.int .i64 (ys[k]+(a.length:Int)))) (.slice (some ⟨g5,0,none⟩) n gc) (Zcc (a.length:Int) (k+1) ys):=by
        have e1:(iv (Zcc (a.length:Int) k ys)).set k (.int .i64 (ys[k]+(a.length:Int)))=iv (Zcc (a.length:Int) (k+1) ys):=by
         unfold iv;rw [<- List.map_set,Zn7 hky]
        rw [e1] at hst;have e2:n=(Zcc (a.length:Int) (k+1) ys).length:=by rw [Zar,hn]
        unfold Row;rw [<- e2];exact hst
       have hk6:Za _ (wr.setCell ⟨g5,k,none⟩ (.int .i64 (ys[k]+(a.length:Int)))):=Zc.setCell (p:=⟨g5,k,none⟩) hk5 (λ hq=>by have:=HB5.out;simp only at hq;omega) _;obtain ⟨yk,hyk⟩:∃ yk,ys[k]=yk:=⟨_,rfl⟩;rw [hyk] at hgc hy1' hy2' hst2 hk6;have q1:(0:Int)<=(k:Int):=by omega
       have q2:(k:Int)<(n:Int):=by omega
       have q3:(k:Int)<4000:=by
        have:=HKID.out.2;have h1:=J1 (Zs.one b3 hlt).kids.2;have h2:=(Xs b3 hlt).2;have h3:ys.length=arN L b[i]:=by rw [<- this];unfold ofN;rw [List.length_map,Z9 hlt,Zk]
        omega
       clear hst hyk hr5
       go_wp2_with fail
       go_roundw
       case rel=>exact ⟨k+1,by go_num,by omega,by first | exact hst2 | (rw [Int.add_zero] at hst2;exact hst2),by first | exact hk6 | (rw [Int.add_zero] at hk6;exact hk6)⟩
       case measure=>simp [intOf];omega
      ·have hke:k=n:=by omega
       have q2:¬ (k:Int)<(n:Int):=by omega
       have hr6:Row B5 wr (.slice go n gc) ((Zl L J m).map (λ k:Nat=>(k:Int))):=by
        rw [HKID.out.1]
        have:Zcc (a.length:Int) k ys=ys.map (λ x=>x+(a.length:Int)):=by
         unfold Zcc;rw [hke,<- hn,List.take_length,List.drop_length,List.append_nil]
        rw [<- this];exact hr5
       have hL6:LS w wr (.slice ro L.length rc) (.slice ao a.length ac) (.slice bo b.length bc) vs va (tri (T.take m) [] []) (KA L J m):=hLS.same hk5;obtain ⟨c1,c2,c3,c4,c5,c6,c7⟩:=hL6.cells;obtain ⟨z,hz⟩:∃ z,T[m]=z:=⟨_,rfl⟩;obtain ⟨to', tcap,hv0⟩:=Zf (hL6.fam.rows 0 (by omega));have hl0:(tri (T.take m) [] [] 0).length=m:=by show (T.take m).length=m;rw [List.length_take];omega
       rw [hl0] at hv0
       have hrow0:wr.ownsRow (w.heap.size+2) 3 1 (vs 0) m (iv (T.take m)):=by
        have h0:wr.ownsRow (w.heap.size+2) 3 1 (vs 0) (tri (T.take m) [] [] 0).length (iv (T.take m)):=hL6.fam.rows 0 (by omega);rw [hl0] at h0;exact h0
       rw [hv0] at c1 hrow0;have hn1:m+1<=maxLen:=by unfold maxLen;omega
       have hn2:(m+1) * 8<=140737488355328:=by omega
       have hb9:w.heap.size+2<=(wr.alloc (.cells #[.int .i64 z] 3)).drew.heap.size:=by
        show _<=(wr.alloc (.cells #[.int .i64 z] 3)).heap.size;rw [World.size_alloc];have:=hL6.big;omega
       have PE:Hid (∀ gg cap' w9,w9.ownsRow (w.heap.size+2) 3 1 (.slice (some ⟨gg,0,none⟩) (m+1) cap') (m+1) (iv (T.take m) ++ [.int .i64 z])->(wr.alloc (.cells #[.int .i64 z] 3)).drew.grownBy w9 (Value.slice to' m tcap).ownBlock->((Value.slice to' m tcap).ownBlock=some gg∨gg=(wr.alloc (.cells #[.int .i64 z] 3)).drew.heap.size)->LS w (w9.setCell ⟨w.heap.size,1,none⟩ (.slice (some ⟨gg,0,none⟩) (m+1) cap')) (.slice ro L.length rc) (.slice ao a.length ac) (.slice bo b.length bc) (λ j=>if j=0 then .slice (some ⟨gg,0,none⟩) (m+1) cap' else vs j) va (tri (T.take (m+1)) [] []) (KA L J m)∧w9.cell? ⟨w.heap.size,1,none⟩=some (vs 0)∧w9.frozen? ⟨w.heap.size,1,none⟩=false∧Zc (λ q=>q=w.heap.size∨(vs 0).ownBlock=some q) wr (w9.setCell ⟨w.heap.size,1,none⟩ (.slice (some ⟨gg,0,none⟩) (m+1) cap'))∧∀ q,(Value.slice go n gc).ownBlock=some q->q≠gg):=by
        intro gg cap' w9 q1 q2 q3;rw [<- hv0] at q2 q3;have kd:Za wr (wr.alloc (.cells #[.int .i64 z] 3)).drew:=Zc.drew (Zc.alloc (Zc.refl _ wr) _);obtain ⟨r1,r2,r3⟩:=hL6.push (i:=0) (s:=1) (by omega) rfl hl0 kd q1 q2 q3 kd.size (xs' := tri (T.take (m+1)) [] []) (by show T.take (m+1)=T.take m ++ [z];rw [List.take_add_one,List.getElem?_eq_getElem hmT,hz];rfl) (λ j _ e=>by unfold tri;rw [if_neg e,if_neg e]);refine ⟨r1,r2,r3,?_,λ q e f=>?_⟩
        rotate_left
        ·subst f
         rcases q3 with g | g
         ·exact (HV.out.2 q (Xr hr6 e)).2 0 (by omega) g
         ·have h1:=(World.ownsRow.lt hr6 q e).2
          have h2:wr.heap.size+1=(wr.alloc (.cells #[.int .i64 z] 3)).drew.heap.size:=(World.size_alloc _ _).symm;omega
        have kg:Zc (λ q=>q=w.heap.size∨(vs 0).ownBlock=some q) wr w9:=Zc.grown (Zc.mono kd (λ _ _ f=>f.elim)) q2 (λ q e _=>.inr e);exact Zc.setCell (p:=⟨w.heap.size,1,none⟩) kg (λ _=>.inl rfl) _
       have P7:Hid (∀ (gg cap' : Nat) (w8:World) (vs' : Nat->Value),LS w w8 (.slice ro L.length rc) (.slice ao a.length ac) (.slice bo b.length bc) vs' va (tri (T.take (m+1)) [] []) (KA L J m)->Row (w.heap.size+2) w8 (.slice go n gc) ((Zl L J m).map (λ k:Nat=>(k:Int)))->(∀ q,(Value.slice go n gc).ownBlock=some q->va.ownBlock≠some q∧∀ i,i<3->(vs' i).ownBlock≠some q)->∃ cs vO vC,va=.slice vO m vC∧w8.ownsRow (w.heap.size+2) 51 1 (.slice vO m vC) m cs∧∀ (gg cap' : Nat) (w9:World),w9.ownsRow (w.heap.size+2) 51 1 (.slice (some ⟨gg,0,none⟩) (m+1) cap') (m+1) (cs ++ [.slice go n gc])->(w8.alloc (.cells #[.slice go n gc] 51)).grownBy w9 (Value.slice vO m vC).ownBlock->((Value.slice vO m vC).ownBlock=some gg∨gg=(w8.alloc (.cells #[.slice go n gc] 51)).heap.size)->LS w (w9.setCell ⟨w.heap.size,2,none⟩ (.slice (some ⟨gg,0,none⟩) (m+1) cap')) (.slice ro L.length rc) (.slice ao a.length ac) (.slice bo b.length bc) vs' (.slice (some ⟨gg,0,none⟩) (m+1) cap') (tri (T.take (m+1)) [] []) (KA L J (m+1))∧w9.cell? ⟨w.heap.size,2,none⟩=some va∧w9.frozen? ⟨w.heap.size,2,none⟩=false):=by
        intro _ _ w8 vs' h1 h2 h3;obtain ⟨cs,hcs1,_⟩:=h1.fam.ar;rw [Zm5] at hcs1;obtain ⟨vO,vC,hva⟩:=Zf hcs1;refine ⟨cs,vO,vC,hva,hva ▸ hcs1,?_⟩;intro gg cap' w9 q1 q2 q3;rw [Zsp];rw [<- hva] at q2 q3;have kd:Za w8 (w8.alloc (.cells #[.slice go n gc] 51)):=Zc.alloc (Zc.refl _ w8) _;exact h1.more (Zm5 _ _ _) h2 h3 hcs1 kd q1 q2 q3 kd.size
       have hrow8:Hid (∀ w8,Zc (λ q=>q=w.heap.size∨(vs 0).ownBlock=some q) wr w8->Row (w.heap.size+2) w8 (.slice go n gc) ((Zl L J m).map (λ k:Nat=>(k:Int)))):=by
        intro w8 hk8;refine (hk8.row (Yy hr6 HV.out.1) (λ q e=>?_));have:=Xr hr6 e;rintro (f | f)
        ·have:=HV.out.1;omega
        ·exact (HV.out.2 q this).2 0 (by omega) f
       have hX6:=hb.same hL6.kept;obtain ⟨xb,xof,hxo,hx1,hx2⟩:=hX6.get hlt;rw [<- HTM.out,hz] at hx2;rw [hxo] at c6
       have c1a:(wr.alloc (.cells #[.int .i64 z] 3)).drew.cell? ⟨w.heap.size,1,none⟩=some (.slice to' m tcap):=by
        have:=(hL6.same (Zc.drew (Zc.alloc (Zc.refl _ wr) (.cells #[.int .i64 z] 3)))).cells.1;rw [this,hv0]
       have VA:Hid (∀ gg,(∀ q,(Value.slice go n gc).ownBlock=some q->q≠gg)->∀ (cap' q:Nat),(Value.slice go n gc).ownBlock=some q->va.ownBlock≠some q∧∀ i,i<3->((λ j=>if j=0 then Value.slice (some ⟨gg,0,none⟩) (m+1) cap' else vs j) i).ownBlock≠some q):=by
        intro gg hf cap' q e;obtain ⟨x1,x2⟩:=HV.out.2 q (Xr hr6 e);refine ⟨x1,λ i hi=>?_⟩
        by_cases ei:i=0
        ·simp only [ei,if_true,Value.ownBlock]
         intro f;simp only [Option.some.injEq] at f;exact hf q e f.symm
        ·simp only [ei,if_false];exact x2 i hi
       clear hL6 hXr hX6 hLS hr5 hr6 hl0 hv0 hxo hke
       go_upto_region 16 with fail
       go_cut [] from 70 to 85 (λ wc=>∃ gg cap', LS w wc (.slice ro L.length rc) (.slice ao a.length ac) (.slice bo b.length bc) (λ j=>if j=0 then .slice (some ⟨gg,0,none⟩) (m+1) cap' else vs j) va (tri (T.take (m+1)) [] []) (KA L J m)∧Zc (λ q=>q=w.heap.size∨(vs 0).ownBlock=some q) wr wc∧∀ q,(Value.slice go n gc).ownBlock=some q->q≠gg)
       case first=>
        clear P7 VA hrow8
        go_region_law (refine step_append_lies _ (by rfl) _ _ 51 (by rfl) (w.heap.size+2) 3 i0 _ 1 8 underlying51 hi0 hz0 hz1 hz2 rfl (by omega) (.slice to' m tcap) m (iv (T.take m)) (by rfl) ((hrow0.alloc _).drew) ⟨wr.heap.size,0,none⟩ 1 1 [.int .i64 z] (by rfl) (by rfl) (World.news_of_block (cs:=#[.int .i64 z]) (t:=3) (fr:=(0,0)) (heap_alloc_new wr _)) (by simp [Value.oneCell']) (by omega) hn1 hn2 hb9 _ rfl ?_;intro gg cap' w9 hown hgrow hat hlt9;obtain ⟨p1,p2,p3,p4,p5⟩:=PE.out gg cap' w9 hown hgrow hat)
        all_goals
         go_wp2_with fail
         go_meet;exact ⟨gg,cap', p1,p4,p5⟩
       case rest=>
        obtain ⟨gg,cap', hL7,hK7,hf7⟩:=hcut;obtain ⟨cs,vO,vC,hva,hrow8', P8⟩:=P7.out 0 0 wc _ hL7 (hrow8.out wc hK7) (VA.out gg hf7 cap');clear P7 VA hrow8 PE c1a hrow0 hb9 c1 c2 c3 c4 c5 c6 c7;obtain ⟨c1,c2,c3,c4,c5,c6,c7⟩:=hL7.cells;rw [hva] at c2;have PE:Hid (∀ (gg cap' : Nat) (w9:World),w9.ownsRow (w.heap.size+2) 51 1 (.slice (some ⟨gg,0,none⟩) (m+1) cap') (m+1) (cs ++ [.slice go n gc])->(wc.alloc (.cells #[.slice go n gc] 51)).grownBy w9 (Value.slice vO m vC).ownBlock->((Value.slice vO m vC).ownBlock=some gg∨gg=(wc.alloc (.cells #[.slice go n gc] 51)).heap.size)->_):=P8
        have hb9:w.heap.size+2<=(wc.alloc (.cells #[.slice go n gc] 51)).heap.size:=by
         rw [World.size_alloc];have:=hL7.big;omega
        have hn3:(m+1) * 24<=140737488355328:=by omega
        clear P8 hL7 hK7 hva
        go_wp2_with ((at_builtin;refine wpList_append_lies _ rfl _ _ 50 rfl (w.heap.size+2) 51 j0 _ 1 24 underlying50 hj0 hy0 hy1 hy2 rfl (by omega) (.slice vO m vC) m cs rfl (hrow8'.alloc _) ⟨wc.heap.size,0,none⟩ 1 1 [.slice go n gc] rfl rfl (World.news_of_block (cs:=#[.slice go n gc]) (t:=51) (fr:=(0,0)) (heap_alloc_new wc _)) (by simp [Value.oneCell']) (by omega) hn1 hn3 hb9 _ rfl ?_;intro gg' cap'' w9 hown hgrow hat hlt9;obtain ⟨p1,p2,p3⟩:=PE.out gg' cap'' w9 hown hgrow hat))
        go_roundw
        case rel=>
         refine ⟨i+1,by omega,by omega,(λ j=>if j=0 then .slice (some ⟨gg,0,none⟩) (m+1) cap' else vs j),.slice (some ⟨gg', 0,none⟩) (m+1) cap'', ?_⟩
         first | (rw [show a.length+(i+1)=m+1 by omega];exact p1) | (rw [show i+1=m+1 by omega];exact p1)
        case measure=>simp [intOf];omega
    ·have hie:i=b.length:=by omega
     have q2:¬ (i:Int)<(b.length:Int):=by omega
     have hL8:LS w wr (.slice ro L.length rc) (.slice ao a.length ac) (.slice bo b.length bc) vs va (tri (T.take (if 1+1=0 then 0 else if 1+1=1 then a.length else N)) [] []) (KA L J (if 1+1=0 then 0 else if 1+1=1 then a.length else N)):=by
      have e1:(if 1+1=0 then 0 else if 1+1=1 then a.length else N)=a.length+i:=by have:=HT.out.2;simp;omega
      rw [e1];exact hLS
     clear hLS
     go_wp2_with fail
     go_roundw
     case rel=>first | exact ⟨1+1,vs,va,by go_num,by omega,hL8⟩ | exact ⟨1+1,by first | rfl | omega | simp,by omega,vs,va,hL8⟩
     case measure=>simp [intOf]
  ·obtain ⟨c1,c2,c3,c4,c5,c6,c7⟩:=hLS.cells
   have hL9:LS w wr (.slice ro L.length rc) (.slice ao a.length ac) (.slice bo b.length bc) vs va (tri T [] []) (KA L J N):=by
    have e1:T.take N=T:=by rw [<- hTl,List.take_length]
    have:=hLS;simp only [show ¬ (2:Nat)=0 by omega,show ¬ (2:Nat)=1 by omega,if_false,e1] at this;exact this
   clear hLS
   go_wp2_with fail
   go_loopw [17] (λ s17 wr=>∃ (i:Nat) (vs:Nat->Value),s17=.int .i64 (i:Int)∧i<=N+200∧LS w wr (.slice ro L.length rc) (.slice ao a.length ac) (.slice bo b.length bc) vs va (tri T (Kt N 0 i a.length ap T) (Zax N T i)) (KA L J N)) (λ s17 _=>N+200-(intOf s17).toNat)
   case atStart=>exact ⟨0,vs,rfl,by omega,hL9⟩
   case round=>
    clear hL9 c1 c2 c3 c4 c5 c6 c7;obtain ⟨i,vs,rfl,hi,hLS⟩:=hrel;obtain ⟨c1,c2,c3,c4,c5,c6,c7⟩:=hLS.cells
    by_cases hlt:i<N+200
    ·have z2:(i:Int)<((N+200:Nat):Int):=by omega
     have z3:(i:Int)<(N:Int)+200:=by omega
     have z1:(0:Int)<=(i:Int):=by omega
     have hn1:i+1<=maxLen:=by unfold maxLen;omega
     have hn2:(i+1) * 8<=140737488355328:=by omega
     obtain ⟨uo,uc,hu,hrowU,hb9,PU⟩:=hLS.pe (i:=1) (s:=3) (by omega) rfl (l:=i) (z:=(i:Int)) (xs' := tri T (Kt N 0 (i+1) a.length ap T) (Zax N T i)) (by show (Kt N 0 i a.length ap T).length=i;exact Zam _ _ _ _ _ _) (by show Kt N 0 (i+1) a.length ap T=Kt N 0 i a.length ap T ++ [(i:Int)];exact Zsu _ _ _ _ _) Zk7;rw [hu] at c3
     go_upto_region 22 with ((at_builtin;refine wpList_append_lies _ rfl _ _ 51 rfl (w.heap.size+2) 3 i0 _ 1 8 underlying51 hi0 hz0 hz1 hz2 rfl (by omega) (.slice uo i uc) i (iv (tri T (Kt N 0 i a.length ap T) (Zax N T i) 1)) rfl (hrowU.alloc _) ⟨wr.heap.size,0,none⟩ 1 1 [.int .i64 (i:Int)] rfl rfl (World.news_of_block (cs:=#[.int .i64 (i:Int)]) (t:=3) (fr:=(0,0)) (heap_alloc_new wr _)) (by simp [Value.oneCell']) (by omega) hn1 hn2 hb9 _ rfl ?_;intro gg cap' w9 hown hgrow hat hlt9;obtain ⟨p1,p2,p3⟩:=PU.out gg cap' w9 hown hgrow hat))
     obtain ⟨w2,hw2⟩:∃ w2,w9.setCell ⟨w.heap.size,3,none⟩ (.slice (some ⟨gg,0,none⟩) (i+1) cap')=w2:=⟨_,rfl⟩;rw [hw2] at p1 ⊢;obtain ⟨vs2,hL2⟩:∃ vs2,LS w w2 (.slice ro L.length rc) (.slice ao a.length ac) (.slice bo b.length bc) vs2 va (tri T (Kt N 0 (i+1) a.length ap T) (Zax N T i)) (KA L J N):=⟨_,p1⟩;clear PU p1 p2 p3 hw2 hown hgrow hat hlt9 hu hrowU hb9 hLS c1 c2 c3 c4 c5 c6 c7;obtain ⟨c1,c2,c3,c4,c5,c6,c7⟩:=hL2.cells
     by_cases hiN:i<N
     ·obtain ⟨tb,tc,ht1,ht2,ht3⟩:=hL2.fam.form (i:=0) (n:=N) (by omega) hTl (by omega)
      rw [ht1] at c1;have tcl:w2.cell? ⟨tb,i,none⟩=some (.int .i64 (at' T (i:Nat))):=(ht2.cell hiN).1;obtain ⟨x,hx⟩:∃ x,at' T (i:Nat)=x:=⟨_,rfl⟩;rw [hx] at tcl;have HX:Hid (at' T (i:Nat)=x):=hx;clear hx ht2;have y1:(i:Int)<(N:Int):=by omega
      by_cases hx0:0<=x
      ·have ip:¬ x<0:=by omega
       obtain ⟨to', tc', hr', hrowR,hb9', PR⟩:=hL2.pe (i:=2) (s:=4) (by omega) rfl (l:=i) (z:=(i:Int)) (xs' := tri T (Kt N 0 (i+1) a.length ap T) (Zax N T (i+1))) (by show (Zax N T i).length=i;exact Zbr _ _ _) (by show Zax N T (i+1)=Zax N T i ++ [(i:Int)];rw [Ze2];congr 2;unfold Zfh;rw [HX.out,if_pos ⟨hiN,hx0⟩]) Zla;rw [hr'] at c4
       
       clear hL2
       go_wp2_with ((at_builtin;refine wpList_append_lies _ rfl _ _ 51 rfl (w.heap.size+2) 3 i0 _ 1 8 underlying51 hi0 hz0 hz1 hz2 rfl (by omega) (.slice to' i tc') i (iv (tri T (Kt N 0 (i+1) a.length ap T) (Zax N T i) 2)) rfl (hrowR.alloc _) ⟨w2.heap.size,0,none⟩ 1 1 [.int .i64 ((i:Int))] rfl rfl (World.news_of_block (cs:=#[.int .i64 ((i:Int))]) (t:=3) (fr:=(0,0)) (heap_alloc_new w2 _)) (by simp [Value.oneCell']) (by omega) hn1 hn2 hb9' _ rfl ?_;intro gg' cap'' w9' hown' hgrow' hat' hlt9'; obtain ⟨p1', p2', p3'⟩:=PR.out gg' cap'' w9' hown' hgrow' hat'))
       go_roundw
       case rel=>first | exact ⟨i+1,by omega,by omega,_,p1'⟩ | exact ⟨i+1,_,by go_num,by omega,p1'⟩
       case measure=>simp [intOf];omega
      ·have ip:x<0:=by omega
       obtain ⟨to', tc', hr', hrowR,hb9', PR⟩:=hL2.pe (i:=2) (s:=4) (by omega) rfl (l:=i) (z:=-1) (xs' := tri T (Kt N 0 (i+1) a.length ap T) (Zax N T (i+1))) (by show (Zax N T i).length=i;exact Zbr _ _ _) (by show Zax N T (i+1)=Zax N T i ++ [-1];rw [Ze2];congr 2;unfold Zfh;rw [HX.out,if_neg (λ f=>hx0 f.2)]) Zla;rw [hr'] at c4
       
       clear hL2
       go_wp2_with ((at_builtin;refine wpList_append_lies _ rfl _ _ 51 rfl (w.heap.size+2) 3 i0 _ 1 8 underlying51 hi0 hz0 hz1 hz2 rfl (by omega) (.slice to' i tc') i (iv (tri T (Kt N 0 (i+1) a.length ap T) (Zax N T i) 2)) rfl (hrowR.alloc _) ⟨w2.heap.size,0,none⟩ 1 1 [.int .i64 (-1)] rfl rfl (World.news_of_block (cs:=#[.int .i64 (-1)]) (t:=3) (fr:=(0,0)) (heap_alloc_new w2 _)) (by simp [Value.oneCell']) (by omega) hn1 hn2 hb9' _ rfl ?_;intro gg' cap'' w9' hown' hgrow' hat' hlt9'; obtain ⟨p1', p2', p3'⟩:=PR.out gg' cap'' w9' hown' hgrow' hat'))
       go_roundw
       case rel=>first | exact ⟨i+1,by omega,by omega,_,p1'⟩ | exact ⟨i+1,_,by go_num,by omega,p1'⟩
       case measure=>simp [intOf];omega
     ·have y1:¬ (i:Int)<(N:Int):=by omega
      obtain ⟨to', tc', hr', hrowR,hb9', PR⟩:=hL2.pe (i:=2) (s:=4) (by omega) rfl (l:=i) (z:=-1) (xs' := tri T (Kt N 0 (i+1) a.length ap T) (Zax N T (i+1))) (by show (Zax N T i).length=i;exact Zbr _ _ _) (by show Zax N T (i+1)=Zax N T i ++ [-1];rw [Ze2];congr 2;unfold Zfh;rw [if_neg (λ f=>hiN f.1)]) Zla;rw [hr'] at c4
      
      clear hL2
      go_wp2_with ((at_builtin;refine wpList_append_lies _ rfl _ _ 51 rfl (w.heap.size+2) 3 i0 _ 1 8 underlying51 hi0 hz0 hz1 hz2 rfl (by omega) (.slice to' i tc') i (iv (tri T (Kt N 0 (i+1) a.length ap T) (Zax N T i) 2)) rfl (hrowR.alloc _) ⟨w2.heap.size,0,none⟩ 1 1 [.int .i64 (-1)] rfl rfl (World.news_of_block (cs:=#[.int .i64 (-1)]) (t:=3) (fr:=(0,0)) (heap_alloc_new w2 _)) (by simp [Value.oneCell']) (by omega) hn1 hn2 hb9' _ rfl ?_;intro gg' cap'' w9' hown' hgrow' hat' hlt9'; obtain ⟨p1', p2', p3'⟩:=PR.out gg' cap'' w9' hown' hgrow' hat'))
      go_roundw
      case rel=>first | exact ⟨i+1,by omega,by omega,_,p1'⟩ | exact ⟨i+1,_,by go_num,by omega,p1'⟩
      case measure=>simp [intOf];omega
    ·have hie:i=N+200:=by omega
     have z2:¬ (i:Int)<((N+200:Nat):Int):=by omega
     have z3:¬ (i:Int)<(N:Int)+200:=by omega
     have hL3:LS w wr (.slice ro L.length rc) (.slice ao a.length ac) (.slice bo b.length bc) vs va (tri T (Kt N 0 (N+200) a.length ap T) (Zax N T (N+200))) (KA L J N):=by rw [<- hie];exact hLS
     clear hLS hie hi
     go_wp2_with fail
     have hL4:LS w wr (.slice ro L.length rc) (.slice ao a.length ac) (.slice bo b.length bc) vs va (tri T (Kt N 0 (N+200) a.length ap T) (Zax N T (N+200))) (KA L J N):=hL3
     go_loopw [18] (λ s18 wr=>∃ i:Nat,s18=.int .i64 (i:Int)∧i<=N∧LS w wr (.slice ro L.length rc) (.slice ao a.length ac) (.slice bo b.length bc) vs va (tri T (Kt N i (N+200) a.length ap T) (Zax N T (N+200))) (KA L J N)) (λ s18 _=>N-(intOf s18).toNat)
     case atStart=>exact ⟨0,rfl,by omega,hL4⟩
     case round=>
      clear hL3 hL4 c1 c2 c3 c4 c5 c6 c7;obtain ⟨i,rfl,hi,hLS⟩:=hrel;obtain ⟨c1,c2,c3,c4,c5,c6,c7⟩:=hLS.cells
      by_cases hiN:i<N
      ·obtain ⟨tb,tc,ht1,ht2,ht3⟩:=hLS.fam.form (i:=0) (n:=N) (by omega) hTl (by omega)
       obtain ⟨ub,uc,hu1,hu2,hu3⟩:=hLS.fam.form (i:=1) (n:=N+200) (by omega) (by exact Zam _ _ _ _ _ _) (by omega);rw [ht1] at c1;rw [hu1] at c3;have tcl:wr.cell? ⟨tb,i,none⟩=some (.int .i64 (at' T (i:Nat))):=(ht2.cell hiN).1;obtain ⟨ucl,ufr⟩:=hu2.cell (i:=i) (by omega);have hlo:=HLOW.out i hiN;obtain ⟨x,hx⟩:∃ x,at' T (i:Nat)=x:=⟨_,rfl⟩;rw [hx] at tcl hlo;have HX:Hid (at' T (i:Nat)=x):=hx;clear hx ht2 hu2;have y1:(i:Int)<(N:Int):=by omega
       have z1:(0:Int)<=(i:Int):=by omega
       have z2:(i:Int)<((N+200:Nat):Int):=by omega
       have z3:(i:Int)<(N:Int)+200:=by omega
       by_cases hx0:x<0
       ·obtain ⟨n,hn⟩:∃ n:Nat,x = -(n:Int)-1:=⟨(-x-1).toNat,by omega⟩
        subst hn;have hn98:n<=98:=by omega
        have hnI:(n:Int)<=98:=by omega
        by_cases hia:a.length<=i
        ·have y2:(a.length:Int)<=(i:Int):=by omega
         have hvn:up0 ap N a.length T i=Zqe ap N 1 (-(n:Int)-1):=by
          unfold up0;rw [HX.out,if_pos ⟨hiN,by omega⟩,if_pos hia]
         obtain ⟨V,hV⟩:∃ V,Zqe ap N 1 (-(n:Int)-1)=V:=⟨_,rfl⟩
         have cV:∀ y z:Int,y=1->z=(n:Int)->Calls prog 233 #[.int .i64 (N:Int),.bool ap,.int .i64 y,.int .i64 z] wr.drew λ e w' => e=.returned (.int .i64 (V:Int))∧w' = wr.drew:=by
          intro y z ey ez;subst ey;subst ez;have:=Zcj wr.drew N 1 ap n (by omega) (by omega) hn98;rw [hV] at this;exact this
         have hL5:LS w (wr.drew.setCell ⟨ub,i,none⟩ (.int .i64 (V:Int))) (.slice ro L.length rc) (.slice ao a.length ac) (.slice bo b.length bc) vs va (tri T (Kt N (i+1) (N+200) a.length ap T) (Zax N T (N+200))) (KA L J N):=by
          have hd:=hLS.same (Zc.drew (Zc.refl (λ _=>False) wr));refine hd.put (i:=1) (by omega) hu1 (by exact Zam _ _ _ _ _ _) ?_ Zk7;show Kt N (i+1) (N+200) a.length ap T=(Kt N i (N+200) a.length ap T).set i (V:Int);rw [Znx _ _ _ _ _ _ (by omega),hvn,hV]
         clear hV hvn hLS
         go_upto_region 32 with fail
         go_region_with (go_at_call 233;refine (cV _ _ (by first | rfl | omega | simp) (Zj1 hn98)).mono ?_;rintro e w6 ⟨rfl,rfl⟩)
         all_goals
          go_wp2_with fail
          go_roundw
          case rel=>first | exact ⟨i+1,by omega,by omega,hL5⟩ | exact ⟨i+1,by go_num,by omega,hL5⟩
          case measure=>simp [intOf];omega
        ·have y2:¬ (a.length:Int)<=(i:Int):=by omega
         have hvn:up0 ap N a.length T i=Zqe ap N 0 (-(n:Int)-1):=by
          unfold up0;rw [HX.out,if_pos ⟨hiN,by omega⟩,if_neg hia]
         obtain ⟨V,hV⟩:∃ V,Zqe ap N 0 (-(n:Int)-1)=V:=⟨_,rfl⟩
         have cV:∀ y z:Int,y=0->z=(n:Int)->Calls prog 233 #[.int .i64 (N:Int),.bool ap,.int .i64 y,.int .i64 z] wr.drew λ e w' => e=.returned (.int .i64 (V:Int))∧w' = wr.drew:=by
          intro y z ey ez;subst ey;subst ez;have:=Zcj wr.drew N 0 ap n (by omega) (by omega) hn98;rw [hV] at this;exact this
         have hL5:LS w (wr.drew.setCell ⟨ub,i,none⟩ (.int .i64 (V:Int))) (.slice ro L.length rc) (.slice ao a.length ac) (.slice bo b.length bc) vs va (tri T (Kt N (i+1) (N+200) a.length ap T) (Zax N T (N+200))) (KA L J N):=by
          have hd:=hLS.same (Zc.drew (Zc.refl (λ _=>False) wr));refine hd.put (i:=1) (by omega) hu1 (by exact Zam _ _ _ _ _ _) ?_ Zk7;show Kt N (i+1) (N+200) a.length ap T=(Kt N i (N+200) a.length ap T).set i (V:Int);rw [Znx _ _ _ _ _ _ (by omega),hvn,hV]
         clear hV hvn hLS
         go_upto_region 32 with fail
         go_region_with (go_at_call 233;refine (cV _ _ (by first | rfl | omega | simp) (Zj1 hn98)).mono ?_;rintro e w6 ⟨rfl,rfl⟩)
         all_goals
          go_wp2_with fail
          go_roundw
          case rel=>first | exact ⟨i+1,by omega,by omega,hL5⟩ | exact ⟨i+1,by go_num,by omega,hL5⟩
          case measure=>simp [intOf];omega
       ·have hL5:LS w wr (.slice ro L.length rc) (.slice ao a.length ac) (.slice bo b.length bc) vs va (tri T (Kt N (i+1) (N+200) a.length ap T) (Zax N T (N+200))) (KA L J N):=by
         rw [Zsg _ _ _ _ _ _ (by unfold up0;rw [HX.out,if_neg (λ f=>hx0 f.2)])];exact hLS
        clear hLS
        by_cases hia:a.length<=i
        ·have y2:(a.length:Int)<=(i:Int):=by omega
         go_wp2_with fail
         go_roundw
         case rel=>first | exact ⟨i+1,by omega,by omega,hL5⟩ | exact ⟨i+1,by go_num,by omega,hL5⟩
         case measure=>simp [intOf];omega
        ·have y2:¬ (a.length:Int)<=(i:Int):=by omega
         go_wp2_with fail
         go_roundw
         case rel=>first | exact ⟨i+1,by omega,by omega,hL5⟩ | exact ⟨i+1,by go_num,by omega,hL5⟩
         case measure=>simp [intOf];omega
      ·have hie:i=N:=by omega
       have y1:¬ (i:Int)<(N:Int):=by omega
       have FIN:Hid (Zlu w L ap a b (.returned (.pointer (some ⟨w.heap.size,0,none⟩))) wr):=by
        rw [HLM.out]
        obtain ⟨B,g1,g2,g3,g4,g5⟩:=hLS.net (up:=up0 ap N a.length T) (rep:=Zfh N T) hJl hTl HPOS.out (Zam _ _ _ _ _ _) (Zbr _ _ _) (λ k hk=>by
         rw [Zy2 _ _ _ _ _ _ _ hk,hie]
         by_cases f:k<N
         ·rw [if_pos f]
         ·rw [if_neg f];unfold up0;rw [if_neg (λ q=>f q.1)]) (λ k hk=>Zyx _ _ _ _ hk)
        exact ⟨B,by rw [g1],g2,g3,hLS.kept,g4,g5⟩
       clear hLS hie hi
       go_wp2_with fail
       go_returns
       exact FIN.out
theorem ov_yes (hx:x=l.getD n ([],[])) (h:(R++l.take n).all (λ a=>!Vb L a.1 x.1)=true):ckB L R l 7 n=true:=by subst hx;exact h
theorem ov_no (hx:x=l.getD n ([],[])) (hk:k<(R++l.take n).length) (h1:((R++l.take n).take k).all (λ a=>!Vb L a.1 x.1)=true) (h2:Vb L (R++l.take n)[k].1 x.1=true):ckB L R l 7 n=false∧Xm L R l 7 n=[(77,(n:Int)),(78,(k:Int))]:=by
 have e2:(R++l.take n).findIdx (λ a=>Vb L a.1 x.1)=k:=(List.findIdx_eq hk).2 ⟨h2,λ j hj=>by
  have:=List.all_eq_true.1 h1 ((R++l.take n)[j]'(by omega)) (by
   refine List.mem_iff_getElem.2 ⟨j,by simp at hk ⊢;omega,by simp⟩)
  simpa using this⟩
 subst hx;refine ⟨?_,?_⟩
 ·show (R++l.take n).all _=false
  rw [List.all_eq_false];exact ⟨_,List.getElem_mem hk,λ e=>by rw [h2] at e;cases e⟩
 ·unfold Xm
  rw [if_neg (by omega),if_pos rfl,e2]
theorem Zaw.ans {ws:List (Int × Int)} (h:Zaw L R l j0 j1 ws) (hj:j1<=8) (hne:ws≠[]):Ans L R l ws:=by
 rcases h with ⟨e,_⟩ | ⟨j,n,_,h2,h3,h4,h5,h6⟩
 ·exact absurd e hne
 ·exact .inr ⟨j,n,by omega,h3,h4,h5,h6⟩
theorem Zaw.upto (h:Zaw L R l j0 j1 []):Yv L R l j1 0:=by
 rcases h with ⟨_,e⟩ | ⟨j,n,_,_,_,_,_,h6⟩
 ·exact e
 ·exact absurd h6.symm (Zez _ _ _ _ _)
theorem Zzn (h:Rl n w rv L) (ha:Zh w ao a) (hb:Zh w bo b) (hca:Zd L a=0) (hcb:Zd L b=0) :
  Calls prog 139 #[rv,.slice ao a.length ac,.slice bo b.length bc] w λ e w' => e=.returned (.bool (Zbc L a b))∧Za w w' :=
 Zow hca hcb (Zo5 hca hcb (Zvp h ha hb hca hcb true))
def RChk (L:List Sym) (R l:List Ru) (w:World) (e:Ending) (w' : World):Prop:=∃ ws v,e=.returned v∧Ans L R l ws∧Xh w' v ws∧Za w w'
theorem Zmc {rc:Nat} {mo:Option Addr} {mc:Nat} (h:MR w m ro rc mo mc L R) {lo:Option Addr} {lc:Nat} (hl:Vh w lo l) (hll:l.length<=140737488355328) (hln:lo=none->lc=0) :
  Calls prog 95 #[.pointer (some ⟨m,0,none⟩),.slice lo l.length lc] w (RChk L R l w):=by
 have c1:=Zb h.blk 1;simp only [List.getElem?_toArray,List.getElem?_cons_succ,List.getElem?_cons_zero] at c1;have hRl:=h.le
 by_cases hbig:100<R.length+l.length
 ·have hl0:0<l.length:=by omega
  have A:Hid (Ans L R l [(70,0)]):=.inr ⟨0,0,by omega,hl0,Yv.nil _ _ _,by simp [ckB,Kw];omega,rfl⟩;have CO:=λ ww=>Kg ww 70 0;clear h hl
  by_cases h1:100<l.length
  ·have g1:(100:Int)<(l.length:Int):=by omega
   go_enter func95,ntmps95
   go_wp2_with ((go_at_call 136;refine (CO _).mono ?_;rintro e w2 ⟨v,rfl,hv,hk2⟩))
   go_ret;exact ⟨_,_,rfl,A.out,hv,hk2⟩
  ·have g1:¬ (100:Int)<(l.length:Int):=by omega
   have g2:(100:Int)<(R.length:Int)+(l.length:Int):=by omega
   go_enter func95,ntmps95
   go_wp2_with ((go_at_call 136;refine (CO _).mono ?_;rintro e w2 ⟨v,rfl,hv,hk2⟩))
   go_ret;exact ⟨_,_,rfl,A.out,hv,hk2⟩
 ·have g1:¬ (100:Int)<(l.length:Int):=by omega
  have g2:¬ (100:Int)<(R.length:Int)+(l.length:Int):=by omega
  have up1:Yv L R l 1 0:=⟨λ i hi mm hm=>by
   obtain rfl:i=0:=by omega
   simp [ckB,Kw];omega,λ mm hm=>absurd hm (by omega)⟩
  have CT:=Zpv (lc:=lc) h hl (by omega) up1
  go_enter func95,ntmps95
  go_upto_region 4 with ((go_at_call 137;refine CT.mono ?_;rintro e w2 ⟨ws2,v2,rfl,hP2,hv2,k2⟩;obtain ⟨vo2,vc2,rfl,hv2'⟩:=id hv2))
  by_cases hw2:ws2=[]
  ·subst hw2
   have up3:=hP2.upto;have hm2:=h.same k2;have hl2:=hl.same k2;have CS:=Zk6 (lc:=lc) hm2 hl2 (by omega) up3;clear CT c1 hv2 hv2' hP2
   go_upto_region 7 with ((go_at_call 138;refine CS.mono ?_;rintro e w3 ⟨ws3,v3,rfl,hP3,hv3,k3⟩;obtain ⟨vo3,vc3,rfl,hv3'⟩:=id hv3))
   have K3:=k2.trans' k3
   by_cases hw3:ws3=[]
   ·subst hw3
    have up7:Hid (Yv L R l 7 0):=hP3.upto;have hok:∀ i (hi:i<l.length),Zd L l[i].1=0∧Zd L l[i].2=0:=λ i hi=>up3.ok1 hi;have hm3:=h.same K3;have hl3:=hl.same K3;have k0:Za w3 (w3.alloc (.cells #[] 90)):=Zal9;have r0:(w3.alloc (.cells #[] 90)).ownsRow w3.heap.size 90 2 (.slice (some ⟨w3.heap.size,0,none⟩) 0 0) 0 []:=⟨rfl,.inr ⟨w3.heap.size,0, #[],rfl,Nat.le_refl _,heap_alloc_new w3 _,Nat.le_refl _,by unfold maxLen;omega,rfl,rfl⟩⟩;have N1:Hid (mo=none->mc=0∧R=[]):=hm3.rs.none hm3.nil;have N2:Hid (lo=none->lc=0∧l=[]):=hl3.none hln;obtain ⟨us,hu,US⟩:=hm3.rs.src;obtain ⟨ms,hms,MS⟩:=hl3.src;have z0:=k0.size;have d1:=Zb (hm3.same k0).blk 1;simp only [List.getElem?_toArray,List.getElem?_cons_succ,List.getElem?_cons_zero] at d1;clear CS hv3 hv3' hP3 hm2 hl2 k2 k3 up3
    go_upto_region 10 with (first | (at_builtin;refine Jh rfl (.tmp 39) (.tmp 43) rfl w3.heap.size 0 [] _ rfl r0 mo mc R us rfl hu (US.out _ k0) N1.out z0 (by omega) ?_;intro v4 w4 hr4' k4;have s4:=Zde k0 r0 (Nat.le_refl _) k4;have hr4:w4.ownsRow w3.heap.size 90 2 v4 R.length us:=(by simpa using hr4');obtain ⟨vo4,vc4,rfl⟩:=Zf hr4;have z4:=s4.size) | (at_builtin;refine Jh rfl (.tmp 44) (.tmp 45) rfl w3.heap.size _ _ _ rfl hr4 lo lc l ms rfl hms (MS.out _ s4) N2.out z4 (by omega) ?_;intro v5 w5 hr5 k5;have s5:=Zde s4 hr4 (Nat.le_refl _) k5;obtain ⟨vo5,vc5,rfl⟩:=Zf hr5))
    obtain ⟨o5,c5,e5,r5,hN3,hN4⟩:=J9 hr5 (by simpa using (hu.append hms).same s5);simp only [Value.slice.injEq] at e5;obtain ⟨rfl,hN5,rfl⟩:=e5;clear hN3 hN4 hN5;have K5:=K3.trans' s5;have hm5:=h.same K5;have hl5:=hl.same K5;clear r0 N1 N2 hu US hms MS z0 d1 hr4' hr4 hr5 k4 k5 s4 s5 z4 hm3 hl3 K3 k0
    have hcat:∀ n (hn:n<l.length) k (hk:k<R.length+n),∃ h1:k<(R++l).length,∃ h2:k<(R++l.take n).length,(R++l)[k]=(R++l.take n)[k]:=λ n hn k hk=>by
     refine ⟨by simp;omega,by simp;omega,?_⟩
     by_cases hkr:k<R.length
     ·rw [List.getElem_append_left hkr,List.getElem_append_left hkr]
     ·rw [List.getElem_append_right (by omega),List.getElem_append_right (by omega)]
      simp
    have hallok:∀ k (hk:k<(R++l).length),Zd L (R++l)[k].1=0:=λ k hk=>by
     by_cases hkr:k<R.length
     ·rw [List.getElem_append_left hkr];exact h.ok _ (List.getElem_mem hkr)
     ·rw [List.getElem_append_right (by omega)];exact (hok _ (by simp at hk;omega)).1
    have HCAT:Hid (∀ n (hn:n<l.length) k (hk:k<R.length+n),∃ h1:k<(R++l).length,∃ h2:k<(R++l.take n).length,(R++l)[k]=(R++l.take n)[k]):=hcat;have HALL:Hid (∀ k (hk:k<(R++l).length),Zd L (R++l)[k].1=0):=hallok;have HOK:Hid (∀ i (hi:i<l.length),Zd L l[i].1=0∧Zd L l[i].2=0):=hok;clear hcat hallok hok;have M0:Za w5 w5:=Zc.refl _ _;have FK:Hid (Za w w5):=K5;clear h hl K5;go_wp2
    go_loopw [7] (λ i wr=>∃ n:Nat,n<=l.length∧i=.int .i64 (n:Int)∧Hid (Yv L R l 7 n)∧Za w5 wr) (λ i _=>l.length-(intOf i).toNat)
    case atStart=>exact ⟨0,Nat.zero_le _,rfl,up7,M0⟩
    case round=>
     clear M0 up7;obtain ⟨n,hnl,rfl,hu,hs⟩:=hrel
     by_cases hlt:n<l.length
     ·have i2:(n:Int)<(l.length:Int):=by omega
      go_wp2
      go_loopw [8] (λ i wr=>∃ k:Nat,k<=R.length+n∧i=.int .i64 (k:Int)∧Hid (((R++l.take n).take k).all (λ a=>!Vb L a.1 (l.getD n ([],[])).1)=true)∧Za w5 wr) (λ i _=>R.length+n-(intOf i).toNat)
      case atStart=>exact ⟨0,Nat.zero_le _,rfl,by show _=_;simp,hs⟩
      case round=>
       clear hs;obtain ⟨k,hkl,rfl,ha,hs⟩:=hrel;have hm6:=hm5.same hs;have c1:=Zb hm6.blk 1;simp only [List.getElem?_toArray,List.getElem?_cons_succ,List.getElem?_cons_zero] at c1
       by_cases hkk:k<R.length+n
       ·obtain ⟨hk1,hk2,ek⟩:=HCAT.out n hlt k hkk
        have hao:=HALL.out k hk1;obtain ⟨vb,voff,rfl,hvb,eo,ec,fo,fc,q0,_,B1,_⟩:=(r5.same hs).get hk1;obtain ⟨lb,off,rfl,hlb,ao,ac,bo,bc,p0,_,A1,_⟩:=(hl5.same hs).get hlt;have hxo:=(HOK.out n hlt).1;have hxd:l.getD n ([],[])=l[n]:=by simp [List.getD,hlt]
        have hmeet:Vb L (R++l.take n)[k].1 (l.getD n ([],[])).1 = !Zbc L l[n].1 (R++l)[k].1:=by
         rw [hxd,<- ek];exact Zmj hao hxo
        have i1:(0:Int)<=(n:Int):=by omega
        have j1:(0:Int)<=(k:Int):=by omega
        have j2:(k:Int)<(R.length:Int)+(n:Int):=by omega
        have j3:(k:Int)<(R.length:Int)+(l.length:Int):=by omega
        have j4:(k:Int)<((R++l).length:Int):=by omega
        have HS:Hid (∀ ww,Za wr ww->ww.cell? ⟨m,0,none⟩=some (.slice ro L.length rc)∧ww.cell? ⟨lb,off+n * 2,none⟩=some (.slice ao l[n].1.length ac)∧ww.cell? ⟨vb,voff+k * 2,none⟩=some (.slice eo (R++l)[k].1.length ec)):=λ ww hk=>⟨Zb (hm6.same hk).blk 0,(hk.cell (p:=⟨lb,off+n * 2,none⟩) hlb (λ f=>f)).trans p0,(hk.cell (p:=⟨vb,voff+k * 2,none⟩) hvb (λ f=>f)).trans q0⟩;have C:Hid (∀ ww,Za wr ww->Calls prog 139 #[.slice ro L.length rc,.slice ao l[n].1.length ac,.slice eo (R++l)[k].1.length ec] ww λ e w' => e=.returned (.bool (Zbc L l[n].1 (R++l)[k].1))∧Za wr w'):=λ ww hk=>(Zzn (hm6.same hk).rl (A1.same hk).at' (B1.same hk).at' hxo hao).mono (λ e w' ⟨q1,q2⟩=>⟨q1,hk.trans' q2⟩);have CC0:=HS.out wr (Zc.refl _ _);have W1:Za wr wr.drew:=Zc.drew (Zc.refl _ _)
        have P0:Hid (Zbc L l[n].1 (R++l)[k].1=true->((R++l.take n).take (k+1)).all (λ a=>!Vb L a.1 (l.getD n ([],[])).1)=true):=λ q=>by
         have:=ha.out;rw [List.take_add_one,List.getElem?_eq_getElem hk2,List.all_append,this];simp only [Option.toList_some,List.all_cons,List.all_nil,hmeet,q];rfl
        have P1:Hid (Zbc L l[n].1 (R++l)[k].1=false->Ans L R l [(77,(n:Int)),(78,(k:Int))]):=λ q=>by
         obtain ⟨o1,o2⟩:=ov_no rfl hk2 ha.out (by rw [hmeet,q];rfl);exact .inr ⟨7,n,by omega,hlt,hu.out,o1,o2.symm⟩
        generalize hLn:l[n].1=xl at *;generalize hRk:(R++l)[k].1=yl at *;cases hq:Zbc L xl yl with
        | true=>
         have P:=P0.out hq;rw [hq] at C;have P' : Hid (((R++l.take n).take (k+1)).all (λ a=>!Vb L a.1 (l.getD n ([],[])).1)=true):=P;clear P P0 P1 hq ha hu hmeet ek hLn hRk hm6 A1 B1 p0 q0 hxd hao hxo;go_wp2
         go_region_held3 (λ w' => w'.cell? ⟨m,0,none⟩=some (.slice ro L.length rc)∧w'.cell? ⟨lb,off+n * 2,none⟩=some (.slice ao xl.length ac)∧w'.cell? ⟨vb,voff+k * 2,none⟩=some (.slice eo yl.length ec)) (first | exact cc1 | exact CC0) ((go_at_call 139;refine (C.out _ W1).mono ?_;rintro e w7 ⟨rfl,hw7⟩;have cc1:=HS.out _ hw7))
         all_goals
          go_wp2;go_roundw
          case rel=>first | exact ⟨k+1,by omega,by go_num,P', hs.trans' hw7⟩ | ((repeat apply Exists.intro);exact ⟨⟨k+1,by omega,by go_num,P', hs.trans' hw7⟩,rfl⟩)
          case measure=>simp [intOf];omega
        | false=>
         have P:=P1.out hq;rw [hq] at C;have P' : Hid (Ans L R l [(77,(n:Int)),(78,(k:Int))]):=P;clear P P0 P1 hq ha hu hmeet ek hLn hRk hm6 A1 B1 p0 q0 hxd hao hxo;go_wp2
         go_region_held3 (λ w' => w'.cell? ⟨m,0,none⟩=some (.slice ro L.length rc)∧w'.cell? ⟨lb,off+n * 2,none⟩=some (.slice ao xl.length ac)∧w'.cell? ⟨vb,voff+k * 2,none⟩=some (.slice eo yl.length ec)) (first | exact cc1 | exact CC0) ((go_at_call 139;refine (C.out _ W1).mono ?_;rintro e w7 ⟨rfl,hw7⟩;have cc1:=HS.out _ hw7))
         all_goals
          go_wp2;go_ret;exact ⟨_,_,rfl,P'.out,Zh2 w7 _ _ _ _ rfl,FK.out.trans' (hs.trans' (Zc.alloc hw7 _))⟩
       ·have hA:Hid (Yv L R l 7 (n+1)):=hu.out.step (ov_yes rfl (by
         have:=ha.out
         rwa [List.take_of_length_le (by simp;omega)] at this))
        have hkk' : ¬ (k:Int)<(R.length:Int)+(n:Int):=by omega
        clear hu ha;go_wp2;go_roundw
        case rel=>first | exact ⟨n+1,by omega,by go_num,hA,hs⟩ | ((repeat apply Exists.intro);exact ⟨⟨n+1,by omega,by go_num,hA,hs⟩,rfl⟩)
        case measure=>simp [intOf];omega
     ·have A:Hid (Ans L R l []):=.inl ⟨rfl,hu.out.next (by omega)⟩
      have hlt' : ¬ (n:Int)<(l.length:Int):=by omega
      clear hu hlt;go_wp2;go_ret;exact ⟨_,_,rfl,A.out,Zma _,FK.out.trans' hs⟩
   ·have A:Hid (Ans L R l ws3):=hP3.ans (by omega) hw3
    have hp:(0:Int)<(ws3.length:Int):=by
     have:0<ws3.length:=List.length_pos_iff.2 hw3;omega
    clear CS hv3' hP3;go_wp2;go_ret;exact ⟨_,_,rfl,A.out,hv3,K3⟩
  ·have A:Hid (Ans L R l ws2):=hP2.ans (by omega) hw2
   have hp:(0:Int)<(ws2.length:Int):=by
    have:0<ws2.length:=List.length_pos_iff.2 hw2;omega
   clear CT hv2' hP2;go_wp2;go_ret;exact ⟨_,_,rfl,A.out,hv2,k2⟩
structure MO (w:World) (m:Nat) (ro:Option Addr) (rc:Nat) (L:List Sym) (R:List Ru) (lv:Value) (vs:List Value):Prop where
 blk:w.heap[m]? = some (.cells #[.slice ro L.length rc,lv] 131 (0,0))
 rl:Rl w.heap.size w (.slice ro L.length rc) L
 row:w.ownsRow 0 90 2 lv R.length vs
 own:Z7 w vs R
 le:R.length<=100
 ok:∀ x∈R,Zd L x.1=0∧Zd L x.2=0
theorem MO.same {w':World} {rc:Nat} {vs:List Value} (h:MO w m ro rc L R lv vs) (hk:Za w w'):MO w' m ro rc L R lv vs:=
 ⟨hk.at0 h.blk,Zod (h.rl.same hk) hk.size,hk.row h.row (λ _ _ f=>f),h.own.same hk,h.le,h.ok⟩
theorem MO.read {rc:Nat} {vs:List Value} (h:MO w m ro rc L R lv vs):∃ mo mc,lv=.slice mo R.length mc∧MR w m ro rc mo mc L R:=by
 obtain ⟨ao,cap,rfl,h1,h2,_⟩:=J9 h.row (h.own.rcells (λ x hx=>⟨(Yr (h.ok x hx)).1.2,(Yr (h.ok x hx)).2.2⟩));exact ⟨ao,cap,rfl,h.blk,h.rl,h1,h2,h.le,λ x hx=>(h.ok x hx).1⟩
theorem Zu {vs:List Value} (h:w.ownsRow base T size v n vs) (hq:v.ownBlock=some q):∃ cur,w.heap[q]? = some (.cells cur T (0,0)):=by
 rcases h.2 with ⟨rfl,_⟩ | ⟨g,cap,cur,rfl,_,hg,_⟩
 ·simp [Value.ownBlock] at hq
 ·simp only [Value.ownBlock,Option.some.injEq] at hq
  subst hq;exact ⟨cur,hg⟩
theorem Zp3 {w0 W:World} {ops:Array Oper} {o:Oper} {a:Act} {K:Act->World->Prop} {Q:Exit->Act->World->Prop} {E:Prop} (hgd:o.guard=none) (s x:Operand)
  (ho:o.op=.call { callee:=.builtin .append,args:=#[s,x],argTypes:=#[29,29] })
  (base k:Nat) (vs:List Value) (v:Value) (hs:a.eval s=v) (hW:Za w0 W) (hr:w0.ownsRow base 90 2 v k vs) (A B:Value) (q:Nat) (hx:a.eval x=.slice (some ⟨q,0,none⟩) 1 1) (hq:W.heap[q]? = some (.cells #[A,B] 90 (0,0))) (hA:A.oneCell' = true) (hB:B.oneCell' = true) (hb:base<=w0.heap.size) (hsz:(k+1) * 48<=140737488355328)
  (h:∀ g cap w', w'.ownsRow base 90 2 (.slice (some ⟨g,0,none⟩) (k+1) cap) (k+1) (vs ++ [A,B])->Zc (λ q=>v.ownBlock=some q) w0 w' -> (v.ownBlock=some g∨w0.heap.size<=g)->K (a.put o.dst (.slice (some ⟨g,0,none⟩) (k+1) cap)) w') :
  if Region.wanted o (yielded ops a.tmps)=true then Oper.wp prog o a W K Q else E:=by
 obtain ⟨i,hi,hz0,hz1,hz2⟩:=info_parts V5;refine step_append_lies _ hgd s x 29 ho base 90 i _ 2 48 underlying29 hi hz0 hz1 hz2 rfl (by decide) v k vs hs (hW.row hr (λ _ _ f=>f)) ⟨q,0,none⟩ 1 1 [A,B] hx rfl (World.news_of_block (cs:=#[A,B]) (t:=90) (fr:=(0,0)) hq) (by intro u hu;simp at hu;rcases hu with rfl | rfl <;> assumption) (by omega) (by unfold maxLen;omega) hsz (Nat.le_trans hb hW.size) W.heap.size rfl ?_;intro g cap w' hown hgrow hat hlt;exact h g cap w' hown (Zc.grown (Zc.mono hW (λ _ _ f=>f.elim)) hgrow (λ _ e _=>e)) (hat.imp id (λ e=>by have:=hW.size;omega))
theorem MO.more {w2 w9:World} {rc:Nat} {vs:List Value} {g c g' c' gg cap:Nat} (h:MO w m ro rc L R lv vs) (hk:Za w w2) (t1:Yu w2 g c x.1) (t2:Yu w2 g' c' x.2) (hx:Zd L x.1=0∧Zd L x.2=0) (hlen:R.length+1<=100)
  (r9:w9.ownsRow 0 90 2 (.slice (some ⟨gg,0,none⟩) (R.length+1) cap) (R.length+1) (vs ++ [.slice (some ⟨g,0,none⟩) x.1.length c,.slice (some ⟨g', 0,none⟩) x.2.length c'])) (k9:Zc (λ q=>lv.ownBlock=some q) w2 w9) :
  (w9.cell? ⟨m,1,none⟩=some lv∧w9.frozen? ⟨m,1,none⟩=false)∧MO (w9.setCell ⟨m,1,none⟩ (.slice (some ⟨gg,0,none⟩) (R.length+1) cap)) m ro rc L (R ++ [x]) (.slice (some ⟨gg,0,none⟩) (R.length+1) cap) (vs ++ [.slice (some ⟨g,0,none⟩) x.1.length c,.slice (some ⟨g', 0,none⟩) x.2.length c']):=by
 have h2:=h.same hk;have nm:¬ lv.ownBlock=some m:=λ e=>by obtain ⟨cu,a⟩:=Zu h2.row e;rw [h2.blk] at a;cases a
 have b9:=k9.at h2.blk nm;have ks:Zc (λ q=>q=m) w9 (w9.setCell ⟨m,1,none⟩ (.slice (some ⟨gg,0,none⟩) (R.length+1) cap)):=Zc.setCell (p:=⟨m,1,none⟩) (Zc.refl (λ q=>q=m) w9) (λ _=>rfl) _;have ty1:∀ q,lv.ownBlock=some q->∀ cur,w2.heap[q]? ≠ some (.cells cur 3 (0,0)):=λ q e cur a=>by obtain ⟨cu,b⟩:=Zu h2.row e;rw [a] at b;cases b
 have ty2:∀ q,q=m->∀ cur,w9.heap[q]? ≠ some (.cells cur 3 (0,0)):=λ q e cur a=>by subst e;rw [b9] at a;cases a
 refine ⟨⟨Zb b9 1,Zg b9 1⟩,Zt b9 1 _,?_,?_,?_,by simp;omega,λ y hy=>?_⟩
 ·obtain ⟨a1,a2,a3⟩:=h2.rl
  have ns:∀ q,(Value.slice ro L.length rc).ownBlock=some q->¬ lv.ownBlock=some q:=λ q e f=>by
   obtain ⟨cu,b⟩:=Zu a1 e;obtain ⟨cv,d⟩:=Zu h2.row f;rw [b] at d;cases d
  have ns2:∀ q,(Value.slice ro L.length rc).ownBlock=some q->¬ q=m:=λ q e f=>by
   obtain ⟨cu,b⟩:=Zu a1 e;subst f;have hm:=h2.blk;rw [b] at hm;cases hm
  refine ⟨ks.row (k9.row a1 ns) ns2,λ q e=>?_,a3⟩;have:=a2 q e;have z1:=k9.size;have z2:=ks.size;omega
 ·rw [List.length_append]
  exact ks.row r9 (λ q e f=>by obtain ⟨cu,a⟩:=Zu r9 e;subst f;rw [b9] at a;cases a)
 ·exact ((h2.own.append (Z7.one t1 t2)).kept k9 ty1).kept ks ty2
 ·rcases List.mem_append.1 hy with hy | hy
  ·exact h.ok y hy
  ·simp at hy;subst hy;exact hx
end
section
open Go.RowKit
theorem Zmz:(prog.info? 102).map (λ i=>(i.zero,i.size,i.bytes))=some (some (.agg #[.int .i64 0,.int .i64 0,.int .i64 0]),3,24):=by kernel_rfl
theorem Ziq:(prog.info? 51).map (λ i=>(i.zero,i.size,i.bytes))=some (some (.slice none 0 0),1,24):=by kernel_rfl
def insV (I:List I3):List Value:=(flat3 I).map (λ x=>.int .i64 x)
def Zin (B:Nat->Prop) (w:World) (vs:List Value) (P:List (List Int)):Prop:=
 vs.length=P.length∧∀ i (h:i<P.length),∃ ao ac,vs[i]? = some (.slice ao P[i].length ac)∧Js w ao P[i] ac∧∀ a,ao=some a->¬ B a.block
theorem Zin.mono {vs:List Value} {P:List (List Int)} (h:Zin B w vs P) (hB:∀ b,b<w.heap.size->B' b->B b):Zin B' w vs P:=
 ⟨h.1,λ i hi=>by
  obtain ⟨ao,ac,h1,h2,h3⟩:=h.2 i hi;refine ⟨ao,ac,h1,h2,λ a e q=>?_⟩;obtain ⟨cur,hc⟩:=h2.2 a e
  exact h3 a e (hB _ (Zi hc) q)⟩
structure Lay (B:Nat->Prop) (w:World) (vi vp:Value) (s:St9):Prop where
 ri:w.ownsRow 0 102 3 vi s.1.length (insV s.1)
 ib:∀ k,vi.ownBlock=some k->¬ B k
 rp:∃ vs,w.ownsRow 0 51 1 vp s.2.length vs∧Zin B w vs s.2
 pb:∀ k,vp.ownBlock=some k->¬ B k
theorem Vk {vs:List Value} (h:w.ownsRow base T size v n vs) (hq:v.ownBlock=some q):q<w.heap.size:=by
 obtain ⟨cur,hc⟩:=Zu h hq;exact Zi hc
theorem Lay.mono (h:Lay B w vi vp s) (hB:∀ b,b<w.heap.size->B' b->B b):Lay B' w vi vp s:=by
 obtain ⟨h1,h2,⟨vs,h3,h4⟩,h5⟩:=h;exact ⟨h1,λ k e q=>h2 k e (hB k (Vk h1 e) q),⟨vs,h3,h4.mono hB⟩,λ k e q=>h5 k e (hB k (Vk h3 e) q)⟩
end
section
open Go.RowKit
attribute [local go_sem ↓] Go.wp_at_zero Go.wp_at_succ
def Kv (B:Nat->Prop) (w:World) (tb:Nat) (s:St9):Prop:=
 ∃ vi vp,w.heap[tb]? = some (.cells #[vi,vp] 174 (0,0))∧¬ B tb∧Lay B w vi vp s
theorem Kv.mono (h:Kv B w tb s) (hB:∀ b,b<w.heap.size->B' b->B b):Kv B' w tb s:=by
 obtain ⟨vi,vp,h1,h2,h3⟩:=h;exact ⟨vi,vp,h1,λ q=>h2 (hB _ (Zi h1) q),h3.mono hB⟩
theorem Zsw (h:w.heap[tb]? = some (.cells #[vi,vp] 174 (0,0))):(∀ cur,w.heap[tb]? ≠ some (.cells cur 3 (0,0)))∧(∀ cur,w.heap[tb]? ≠ some (.cells cur 102 (0,0)))∧(∀ cur,w.heap[tb]? ≠ some (.cells cur 51 (0,0))):=
 ⟨(λ cur e=>by rw [h] at e;cases e),(λ cur e=>by rw [h] at e;cases e),(λ cur e=>by rw [h] at e;cases e)⟩
end
end Go.Proofs.YtmjgnfkbnofjoaaGreatDoor
