import Derived.WalkKit
import Derived.Test.YtmjgnfkbnofjoaaGreatDoorRN18
namespace Go.Proofs.YtmjgnfkbnofjoaaGreatDoor
open Go.Proofs.Tryz
set_option maxRecDepth 100000
set_option linter.unusedVariables false
set_option maxHeartbeats 16000000
variable {e:Ending} {T xs ys:List Int} {R:List Ru} {L:List Sym} {V a b bs g i m q tc y:Nat} {ro sp tto:Option Addr} {t:TypeId} {a0 a1:Value} {w:World}
section
open Go.RowKit
attribute [local go_sem ↓] Go.wp_at_zero Go.wp_at_succ
theorem Znc (hb:w.heap[m]? = some (.cells #[a0,a1] t (0,0))) (x0 x1:Value) :
  (w.cell? ⟨m,0,none⟩=some a0∧w.cell? ⟨m,1,none⟩=some a1)∧(w.frozen? ⟨m,0,none⟩=false∧w.frozen? ⟨m,1,none⟩=false)∧∃ Z,Hid ((w.setCell ⟨m,0,none⟩ x0).setCell ⟨m,1,none⟩ x1=Z)∧Hid (Z.cell? ⟨m,0,none⟩=some x0∧Z.cell? ⟨m,1,none⟩=some x1)∧Hid (Zc (λ q=>q=m) w Z∧Z.heap[m]? = some (.cells #[x0,x1] t (0,0))):=by
 obtain ⟨p1,p2⟩:=Zob hb x0 x1;exact ⟨⟨Zb hb 0,Zb hb 1⟩,⟨Zg hb 0,Zg hb 1⟩,_,rfl,⟨Zb p1 0,Zb p1 1⟩,p2,p1⟩
theorem Zl4.shape {X:List (Nat × Nat)} (h:Zl4 L T X e):∃ (a b:Int) (t:Bool),e=.returned (.tuple #[.agg #[.int .i64 a,.int .i64 b],.bool t]):=by
 rcases h with ⟨k,hk,_,_,e⟩ | ⟨_,e⟩ <;> exact ⟨_,_,_,e⟩
theorem Zt2 {rc:Nat} (h:Zcu w b bs ro rc tto tc L R T) :
  Calls prog 69 #[.pointer (some ⟨b,0,none⟩)] w λ e w' => Zl4 L T (Vx L R T) e∧Za w w' := by
 have h2000:(Vx L R T).length<=2000:=Nat.le_trans (Zc5 _ _) (Ze.1 h.ok).1
 have hplc:∀ k (hk:k<(Vx L R T).length),((Vx L R T)[k]).1<T.length:=λ k hk=>by
  have:=Zmo _ _ _ (List.getElem_mem hk);omega
 obtain ⟨W1,hW1⟩:∃ W1,W1=(w.alloc (.cells #[.pointer (some ⟨b,0,none⟩)] 142)).alloc (.cells #[.int .i64 0,.int .i64 0] 85):=⟨_,rfl⟩;have KW:Za w W1:=by rw [hW1];exact ((Zc.refl _ w).alloc _).alloc _
 have BK:Hid (∀ ww,Za W1 ww->ww.heap[w.heap.size]? = some (.cells #[.pointer (some ⟨b,0,none⟩)] 142 (0,0))∧ww.heap[w.heap.size+1]? = some (.cells #[.int .i64 0,.int .i64 0] 85 (0,0))):=λ ww hk=>by
  have k1:Za (w.alloc (.cells #[.pointer (some ⟨b,0,none⟩)] 142)) W1:=by rw [hW1];exact Zal9
  exact ⟨hk.at0 (k1.at0 (heap_alloc_new w _)),hk.at0 (by rw [hW1];exact Zo _ _ _)⟩
 have y0:=Zb (BK.out W1 (Zc.refl _ _)).1 0;simp only [List.getElem?_toArray,List.getElem?_cons_zero] at y0
 have C1:Calls prog 66 #[.pointer (some ⟨b,0,none⟩)] W1 (λ e w' => e=.returned (.func (.func 107) #[] #[.pointer (some ⟨W1.heap.size,0,none⟩)])∧Za W1 w' ∧ Calls prog 65 #[.func (.func 107) #[] #[.pointer (some ⟨W1.heap.size,0,none⟩)]] w' λ e w3=>∃ lo lc,e=.returned (.slice lo (Vx L R T).length lc)∧Hid (Kl w3 lo (Vx L R T))∧Za w' w3):=(Zdv W1 b).mono (by
  rintro e w' ⟨rfl,rfl⟩;have k:Za W1 (W1.alloc (.cells #[.pointer (some ⟨b,0,none⟩)] 142)):=Zal9
  exact ⟨rfl,k,Zdm (h.same (KW.trans' k)) (Zc.refl _ _) (Zb (heap_alloc_new _ _) 0)⟩)
 have CF:Hid (∀ w4 lb lo lc,Za W1 w4->Kl w4 lo (Vx L R T)->w4.cell? ⟨lb,0,none⟩=some (.slice lo (Vx L R T).length lc)->Calls prog 113 #[.slice lo (Vx L R T).length lc] w4 (λ e w5=>e=.returned (.func (.func 164) #[] #[.pointer (some ⟨w4.heap.size,0,none⟩)])∧Calls prog 108 #[.func (.func 164) #[] #[.pointer (some ⟨w4.heap.size,0,none⟩)],.func (.func 114) #[] #[.pointer (some ⟨w.heap.size,0,none⟩),.pointer (some ⟨lb,0,none⟩)]] w5 λ e w6=>∃ (a b:Int) (t:Bool),e=.returned (.tuple #[.agg #[.int .i64 a,.int .i64 b],.bool t])∧Hid (Zl4 L T (Vx L R T) e)∧Za W1 w6)):=λ w4 lb lo lc k4 hx hl=>(Ztk w4 lo _ lc).mono (by
  rintro e w5 ⟨rfl,rfl⟩;have k5:Za w4 (w4.alloc (.cells #[.slice lo (Vx L R T).length lc] 77)):=Zal9;refine ⟨rfl,(Zp0 (lc:=lc) (hx.same k5) h2000 (Zb (heap_alloc_new w4 _) 0) (cb:=w.heap.size) (ab:=lb) (q:=λ j=>if hj:j<(Vx L R T).length then alB L T (Vx L R T) ((Vx L R T)[j]).1 else false) (λ k hk ww hs=>?_)).mono ?_⟩
  ·have k9:Za w4 ww:=k5.trans' hs
   have:=Zpf (h.same (KW.trans' (k4.trans' k9))) (hx.same k9) h2000 (Zb (BK.out ww (k4.trans' k9)).1 0) ((k9.cell (p:=⟨lb,0,none⟩) (World.block_lt_of_cell? _ _ hl) (λ f=>f)).trans hl) (p:=((Vx L R T)[k]).1) (r:=((Vx L R T)[k]).2) (hplc k hk)
   simpa only [dif_pos hk] using this
  ·rintro e w6 ⟨k6,⟨k,hk,q1,q2,u0,rfl⟩ | ⟨q1,rfl⟩⟩
   ·refine ⟨_,_,_,rfl,.inl ⟨k,hk,by rwa [dif_pos hk] at q1,λ j hj=>?_,rfl⟩,(k4.trans' k5).trans' k6⟩
    have:=q2 j hj
    rwa [dif_pos (by omega)] at this
   ·refine ⟨_,_,_,rfl,.inr ⟨λ j hj=>?_,rfl⟩,(k4.trans' k5).trans' k6⟩
    have:=q1 j hj
    rwa [dif_pos hj] at this)
 have PUT:Hid (∀ w6 (a b:Int),Za W1 w6->(w6.cell? ⟨w.heap.size+1,0,none⟩=some (.int .i64 0)∧w6.cell? ⟨w.heap.size+1,1,none⟩=some (.int .i64 0))∧(w6.frozen? ⟨w.heap.size+1,0,none⟩=false∧w6.frozen? ⟨w.heap.size+1,1,none⟩=false)∧∃ Z,Hid ((w6.setCell ⟨w.heap.size+1,0,none⟩ (.int .i64 a)).setCell ⟨w.heap.size+1,1,none⟩ (.int .i64 b)=Z)∧Hid (Z.cell? ⟨w.heap.size+1,0,none⟩=some (.int .i64 a)∧Z.cell? ⟨w.heap.size+1,1,none⟩=some (.int .i64 b))∧Hid (Za w Z)):=λ w6 a b hk=>by
  obtain ⟨z1,z2,Z,z3,z4,z5⟩:=Znc (BK.out w6 hk).2 (.int .i64 a) (.int .i64 b);exact ⟨z1,z2,Z,z3,z4,Zc.trans (KW.trans' hk) z5.out.1 (λ i hi e=>by have e' : i=w.heap.size+1:=e;omega)⟩
 have HLT:Hid (∀ w3 lo lc,Za W1 w3->Kl w3 lo (Vx L R T)->Za W1 (w3.alloc (.cells #[.slice lo (Vx L R T).length lc] 77))∧Kl (w3.alloc (.cells #[.slice lo (Vx L R T).length lc] 77)) lo (Vx L R T)∧(w3.alloc (.cells #[.slice lo (Vx L R T).length lc] 77)).cell? ⟨w3.heap.size,0,none⟩=some (.slice lo (Vx L R T).length lc)):=λ w3 lo lc hk hx=>⟨hk.trans' (Zal9),hx.same (Zal9),Zb (heap_alloc_new w3 _) 0⟩;clear h h2000 hplc KW BK;generalize Vx L R T=X at *
 go_enter func69,ntmps69
 go_upto_region 1 with fail
 rw [<- hW1];clear hW1
 go_upto_region 2 with (first
  | (go_at_call 66;refine C1.mono ?_;rintro e w2 ⟨rfl,k2,C2⟩)
  | (go_at_call 65;refine C2.mono ?_;rintro e w3 ⟨lo,lc,rfl,hx3,k3⟩))
 obtain ⟨k4,hx4,hl4⟩:=HLT.out w3 lo lc (k2.trans' k3) hx3.out;obtain ⟨w4,hw4⟩:∃ w4,w4=w3.alloc (.cells #[.slice lo X.length lc] 77):=⟨_,rfl⟩;rw [<- hw4] at k4 hx4 hl4 ⊢;have C3:=CF.out w4 w3.heap.size lo lc k4 hx4 hl4;clear hw4 CF C1 C2 HLT hx4 k4 k2 k3 hx3 y0
 go_wp2_with (first
  | (go_at_call 113;refine C3.mono ?_;rintro e w5 ⟨rfl,C4⟩)
  | (go_at_call 108;refine C4.mono ?_;rintro e w6 ⟨za,zb,zt,rfl,hA,k6⟩;obtain ⟨⟨z0,z1⟩,⟨f0,f1⟩,Z,hZ,hZ2,hZ3⟩:=PUT.out w6 za zb k6))
 rw [hZ.out];exact bodyPost_ret (v:=.tuple #[.agg #[.int .i64 za,.int .i64 zb],.bool zt]) (by simp [results,results69,go_sem,hZ2.out.1,hZ2.out.2]) rfl ⟨hA.out,hZ3.out⟩
theorem Zku (h:Zaq w y sp V L R) (hg:GoodR L R) (hT:Arg w tto T tc) (hc:Zd L T=0) (hcl:∀ x∈T,0<=x) :
  Calls prog 34 #[.pointer (some ⟨y,0,none⟩),.slice tto T.length tc] w λ e w' => ∃ (a b:Int) (t:Bool),e=.returned (.tuple #[.agg #[.int .i64 a,.int .i64 b],.bool t,.nilIface])∧Zl4 L T (Vx L R T) (.returned (.tuple #[.agg #[.int .i64 a,.int .i64 b],.bool t]))∧Za w w' := by
 have hn0:=Za6;obtain ⟨W1,hW1⟩:∃ W1,W1=w.alloc (.cells #[.int .i64 0,.int .i64 0] 85):=⟨_,rfl⟩;have KW:Za w W1:=by rw [hW1];exact Zal9
 have bx:W1.heap[w.heap.size]? = some (.cells #[.int .i64 0,.int .i64 0] 85 (0,0)):=by rw [hW1];exact heap_alloc_new _ _
 have C:=Zac (h.same KW) hg (hT.same KW) hc hcl
 have CI:Hid (∀ w2 b bs ro rc,Zcu w2 b bs ro rc tto tc L R T->Calls prog 69 #[.pointer (some ⟨b,0,none⟩)] w2 λ e w' => ∃ (a b:Int) (t:Bool),e=.returned (.tuple #[.agg #[.int .i64 a,.int .i64 b],.bool t])∧Hid (Zl4 L T (Vx L R T) (.returned (.tuple #[.agg #[.int .i64 a,.int .i64 b],.bool t])))∧Za w2 w'):=λ w2 b bs ro rc h2=>(Zt2 h2).mono (by
  rintro e w' ⟨h3,k3⟩;obtain ⟨a,b,t,rfl⟩:=h3.shape
  exact ⟨a,b,t,rfl,h3,k3⟩)
 have PUT:Hid (∀ w3 (a b:Int),Za W1 w3->∃ w4,Hid (w3.alloc (.cells #[.int .i64 a,.int .i64 b] 85)=w4)∧(w4.cell? ⟨w3.heap.size,0,none⟩=some (.int .i64 a)∧w4.cell? ⟨w3.heap.size,1,none⟩=some (.int .i64 b))∧(w4.cell? ⟨w.heap.size,0,none⟩=some (.int .i64 0)∧w4.cell? ⟨w.heap.size,1,none⟩=some (.int .i64 0))∧(w4.frozen? ⟨w.heap.size,0,none⟩=false∧w4.frozen? ⟨w.heap.size,1,none⟩=false)∧∃ Z,Hid ((w4.setCell ⟨w.heap.size,0,none⟩ (.int .i64 a)).setCell ⟨w.heap.size,1,none⟩ (.int .i64 b)=Z)∧Hid (Z.cell? ⟨w.heap.size,0,none⟩=some (.int .i64 a)∧Z.cell? ⟨w.heap.size,1,none⟩=some (.int .i64 b))∧Hid (Za w Z)):=λ w3 a b hk=>by
  have k4:Za w3 (w3.alloc (.cells #[.int .i64 a,.int .i64 b] 85)):=Zal9;have n4:=heap_alloc_new w3 (.cells #[.int .i64 a,.int .i64 b] 85);obtain ⟨z1,z2,Z,z3,z4,z5⟩:=Znc ((hk.trans' k4).at0 bx) (.int .i64 a) (.int .i64 b);exact ⟨_,rfl,⟨Zb n4 0,Zb n4 1⟩,z1,z2,Z,z3,z4,Zc.trans (KW.trans' (hk.trans' k4)) z5.out.1 (λ i hi e=>by have e' : i=w.heap.size:=e;omega)⟩
 clear h hT hc hcl KW bx
 go_enter func34,ntmps34
 go_upto_region 1 with fail
 rw [<- hW1];clear hW1
 go_upto_region 5 with (first
  | (go_at_call 64;refine C.mono ?_;rintro e w2 ⟨b,bs,ro,rc,rfl,h2,k2, -⟩;have C2:=CI.out w2 b bs ro rc h2)
  | (go_at_call 69;refine C2.mono ?_;rintro e w3 ⟨za,zb,zt,rfl,hA,k3⟩))
 obtain ⟨w4,hw4,⟨x0,x1⟩,⟨z0,z1⟩,⟨f0,f1⟩,Z,hZ,hZ2,hZ3⟩:=PUT.out w3 za zb (k2.trans' k3);rw [hw4.out];clear C C2 CI PUT h2 k2 k3;go_wp2;rw [hZ.out];exact bodyPost_ret (v:=.tuple #[.agg #[.int .i64 za,.int .i64 zb],.bool zt,.nilIface]) (by simp [results,results34,go_sem,hZ2.out.1,hZ2.out.2]) rfl ⟨za,zb,zt,rfl,hA.out,hZ3.out⟩
def J2 (L:List Sym) (x:Ru) (T:List Int) (a:Nat):List Int:=Xo L x.2 (Yw L x.1 T (a:Int))
def Ka (L:List Sym) (x:Ru) (T:List Int) (a:Nat):List Int:=Zqh L T (a:Int) (J2 L x T a)
theorem Zfc {rc:Nat} (h:Zcu w b bs ro rc tto tc L R T) (hi:i<R.length) {c g' c':Nat} (t1:Yu w g c R[i].1) (t2:Yu w g' c' R[i].2) (n:Int) (ha:a<T.length) (hfit:Zgk L T a R[i]=true) :
  Calls prog 68 #[.pointer (some ⟨b,0,none⟩),.agg #[.slice (some ⟨g,0,none⟩) R[i].1.length c,.slice (some ⟨g', 0,none⟩) R[i].2.length c', .int .i64 n],.int .i64 (a:Int)] w λ e w' => Za w w' ∧ if Yq L R[i].2 (Yw L R[i].1 T (a:Int))=0 then ∃ uo uc,e=.returned (.tuple #[.slice uo (Ka L R[i] T a).length uc,.bool (Zfl L T (a:Int) (J2 L R[i] T a) != 0)])∧Zh w' uo (Ka L R[i] T a) else e=.returned (.tuple #[.slice none 0 0,.bool true]):=by
 have hz1:=(h.good.facts hi).ok.1;have hz2:=(h.good.facts hi).ok.2;have hT:=(Ze.1 h.ok);obtain ⟨hE,hS⟩:=Zfy h.good hi h.ok ha;have hfit' : (X9 L R[i].1 T (a:Int)).isSome=true:=by rw [hS];exact hfit
 obtain ⟨σ,hσ⟩:=Option.isSome_iff_exists.1 hfit';obtain ⟨hm1,hm2⟩:=Zos hE hσ;obtain ⟨-, -,hx⟩:=Zks hz1 hz2 h.ok ha hm1;rw [<- hm2] at hx
 have hB100:(Yw L R[i].1 T (a:Int)).length<=100:=by
  rw [hm2];unfold blN;rw [List.length_map];exact Nat.le_trans (List.length_filter_le _ _) (by simp)
 have hPB:(J2 L R[i] T a).length<=2000:=by
  unfold J2 Xo;split
  ·rename_i he
   unfold Yq at he;rw [if_neg (by simp [hz2])] at he;split
   ·rename_i τ hτ
    rw [hτ] at he;simp only at he;split at he
    ·cases he
    ·omega
   ·simp
  ·simp
 obtain ⟨W1,hW1⟩:∃ W1,W1=w.alloc (.cells #[.slice (some ⟨g,0,none⟩) R[i].1.length c,.slice (some ⟨g', 0,none⟩) R[i].2.length c', .int .i64 n] 144):=⟨_,rfl⟩;have KW:Za w W1:=by rw [hW1];exact Zal9
 have bx:W1.heap[w.heap.size]? = some (.cells #[.slice (some ⟨g,0,none⟩) R[i].1.length c,.slice (some ⟨g', 0,none⟩) R[i].2.length c', .int .i64 n] 144 (0,0)):=by rw [hW1];exact heap_alloc_new _ _
 have KD:Za w W1.drew:=KW.trans' (Zc.refl _ _).drew
 have CK:Hid (∀ ww,Za W1 ww->ww.cell? ⟨b,0,none⟩=some (.pointer (some ⟨bs,0,none⟩))∧ww.cell? ⟨b,2,none⟩=some (.slice tto T.length tc)∧ww.cell? ⟨w.heap.size,0,none⟩=some (.slice (some ⟨g,0,none⟩) R[i].1.length c)∧ww.cell? ⟨w.heap.size,1,none⟩=some (.slice (some ⟨g', 0,none⟩) R[i].2.length c')):=λ ww hk=>by
  have h2:=(h.same (KW.trans' hk)).blk;exact ⟨Zb h2 0,Zb h2 2,Zb (hk.at0 bx) 0,Zb (hk.at0 bx) 1⟩
 have hD:=h.same KD;have CM:=Zgn (w:=W1.drew) hD.sig (t1.same KD) hz1 hD.tm (by unfold maxLen;omega) hE;rw [hfit'] at CM;have CA:Hid (∀ ww bo bc,Za w ww->Jd ww bo (Yw L R[i].1 T (a:Int))->Calls prog 111 #[.pointer (some ⟨bs,0,none⟩),.slice (some ⟨g', 0,none⟩) R[i].2.length c', .slice bo (Yw L R[i].1 T (a:Int)).length bc] ww λ e w' => ∃ ao ac,e=.returned (.tuple #[.slice ao (J2 L R[i] T a).length ac,.int .i64 (Yq L R[i].2 (Yw L R[i].1 T (a:Int)))])∧Hid (Zh w' ao (J2 L R[i] T a))∧Za ww w'):=λ ww bo bc hk hb=>Zpp (h.same hk).sig (t2.same hk) hz2 hb hB100 hx bc
 have CP:Hid (∀ ww uo uc,Za w ww->Zh ww uo (J2 L R[i] T a)->Calls prog 112 #[.pointer (some ⟨bs,0,none⟩),.slice tto T.length tc,.int .i64 (a:Int),.slice uo (J2 L R[i] T a).length uc] ww λ e w' => ∃ vo vc,e=.returned (.tuple #[.slice vo (Ka L R[i] T a).length vc,.int .i64 (Zfl L T (a:Int) (J2 L R[i] T a))])∧Hid (Zh w' vo (Ka L R[i] T a))∧Za ww w'):=λ ww uo uc hk hu=>(Zzu (cap:=tc) (ucap:=uc) (h.same hk).sig (h.same hk).tm.at' (by unfold maxLen;omega) (h.same hk).tm.cap' hu (by unfold maxLen;omega) (a:Int)).mono (by
  rintro e w' ⟨v,rfl,hr,hk2⟩;obtain ⟨ao,ac,rfl,i1,_⟩:=hr.ints
  exact ⟨ao,ac,rfl,i1,hk2⟩)
 have KW2:Hid (Za w W1):=KW;have kdd:Hid (∀ ww:World,Za ww ww.drew):=λ ww=>(Zc.refl _ _).drew;clear h hz1 hz2 hT hE hS hfit' hσ hm1 hm2 hx hB100 hPB bx KW KD hD t1 t2 hfit;generalize Ka L R[i] T a=U at *;generalize J2 L R[i] T a=PB at *;generalize Yq L R[i].2 (Yw L R[i].1 T (a:Int))=ae at *;generalize Zfl L T (a:Int) PB=pe at *;generalize Yw L R[i].1 T (a:Int)=MB at *;generalize R[i].1.length=N1 at *;generalize R[i].2.length=N2 at *
 by_cases hz:ae=0
 ·subst hz
  simp only [if_true]
  go_enter func68,ntmps68
  go_upto_region 1 with fail
  rw [<- hW1];clear hW1;have cc0:=CK.out W1.drew (kdd.out W1)
  go_region_held3 (λ ww=>ww.cell? ⟨b,0,none⟩=some (.pointer (some ⟨bs,0,none⟩))∧ww.cell? ⟨b,2,none⟩=some (.slice tto T.length tc)∧ww.cell? ⟨w.heap.size,0,none⟩=some (.slice (some ⟨g,0,none⟩) N1 c)∧ww.cell? ⟨w.heap.size,1,none⟩=some (.slice (some ⟨g', 0,none⟩) N2 c')) (with_reducible first | exact cc0 | exact cc1) (first
   | (go_at_call 110;refine CM.mono ?_;rintro e w3 ⟨bo,bc,rfl,hBA,k3⟩;have K13:=(kdd.out W1).trans' k3;have cc1:=CK.out w3 K13))
  all_goals
   clear cc0 CM;have K3d:Za w w3.drew:=(KW2.out.trans' K13).trans' (kdd.out w3);have C2:=CA.out w3.drew bo bc K3d (hBA.out.same (kdd.out w3));have cc2:=CK.out w3.drew (K13.trans' (kdd.out w3));clear cc1 CA hBA k3
   go_upto_region 2 with fail
   go_region_held3 (λ ww=>ww.cell? ⟨b,0,none⟩=some (.pointer (some ⟨bs,0,none⟩))∧ww.cell? ⟨b,2,none⟩=some (.slice tto T.length tc)∧ww.cell? ⟨w.heap.size,0,none⟩=some (.slice (some ⟨g,0,none⟩) N1 c)∧ww.cell? ⟨w.heap.size,1,none⟩=some (.slice (some ⟨g', 0,none⟩) N2 c')) (with_reducible first | exact cc2 | exact cc3) (first
    | (go_at_call 111;refine C2.mono ?_;rintro e w4 ⟨ao,ac,rfl,hPA,k4⟩;have K14:=(K13.trans' (kdd.out w3)).trans' k4;have cc3:=CK.out w4 K14))
  all_goals
   clear cc2 C2;have K4:Za w w4:=KW2.out.trans' K14;have C3:=CP.out w4.drew ao ac (K4.trans' (kdd.out w4)) (hPA.out.same (kdd.out w4));have cc4:=CK.out w4.drew (K14.trans' (kdd.out w4));clear cc3 CP hPA k4
   go_upto_region 5 with fail
   go_region_held3 (λ ww=>ww.cell? ⟨b,0,none⟩=some (.pointer (some ⟨bs,0,none⟩))∧ww.cell? ⟨b,2,none⟩=some (.slice tto T.length tc)∧ww.cell? ⟨w.heap.size,0,none⟩=some (.slice (some ⟨g,0,none⟩) N1 c)∧ww.cell? ⟨w.heap.size,1,none⟩=some (.slice (some ⟨g', 0,none⟩) N2 c')) (with_reducible first | exact cc4 | exact cc5) (first
    | (go_at_call 112;refine C3.mono ?_;rintro e w5 ⟨vo,vc,rfl,hU,k5⟩;have K15:=(K14.trans' (kdd.out w4)).trans' k5;have cc5:=CK.out w5 K15))
  all_goals
   clear cc4 C3 CK;have KF:Hid (Za w w5∧Zh w5 vo U):=⟨KW2.out.trans' K15,hU.out⟩;go_wp2
   go_ret2
   exact ⟨KF.out.1,vo,vc,by first | rfl | simp,KF.out.2⟩
 ·have hz' : (ae != 0)=true:=by simpa using hz
  simp only [if_neg hz]
  go_enter func68,ntmps68
  go_upto_region 1 with fail
  rw [<- hW1];clear hW1;have cc0:=CK.out W1.drew (kdd.out W1)
  go_region_held3 (λ ww=>ww.cell? ⟨b,0,none⟩=some (.pointer (some ⟨bs,0,none⟩))∧ww.cell? ⟨b,2,none⟩=some (.slice tto T.length tc)∧ww.cell? ⟨w.heap.size,0,none⟩=some (.slice (some ⟨g,0,none⟩) N1 c)∧ww.cell? ⟨w.heap.size,1,none⟩=some (.slice (some ⟨g', 0,none⟩) N2 c')) (with_reducible first | exact cc0 | exact cc1) (first
   | (go_at_call 110;refine CM.mono ?_;rintro e w3 ⟨bo,bc,rfl,hBA,k3⟩;have K13:=(kdd.out W1).trans' k3;have cc1:=CK.out w3 K13))
  all_goals
   clear cc0 CM;have K3d:Za w w3.drew:=(KW2.out.trans' K13).trans' (kdd.out w3);have C2:=CA.out w3.drew bo bc K3d (hBA.out.same (kdd.out w3));have cc2:=CK.out w3.drew (K13.trans' (kdd.out w3));clear cc1 CA hBA k3
   go_upto_region 2 with fail
   go_region_held3 (λ ww=>ww.cell? ⟨b,0,none⟩=some (.pointer (some ⟨bs,0,none⟩))∧ww.cell? ⟨b,2,none⟩=some (.slice tto T.length tc)∧ww.cell? ⟨w.heap.size,0,none⟩=some (.slice (some ⟨g,0,none⟩) N1 c)∧ww.cell? ⟨w.heap.size,1,none⟩=some (.slice (some ⟨g', 0,none⟩) N2 c')) (with_reducible first | exact cc2 | exact cc3) (first
    | (go_at_call 111;refine C2.mono ?_;rintro e w4 ⟨ao,ac,rfl,hPA,k4⟩;have K14:=(K13.trans' (kdd.out w3)).trans' k4;have cc3:=CK.out w4 K14))
  all_goals
   clear cc2 C2;have KF:Hid (Za w w4):=KW2.out.trans' K14;clear cc3 CP hPA k4 CK;go_wp2
   go_ret2
   exact ⟨KF.out,by first | rfl | simp⟩
theorem Zqi {a2:Value} (hb:w.heap[m]? = some (.cells #[a0,a1,a2] t (0,0))) (x0 x1 x2:Value) :
  (w.cell? ⟨m,0,none⟩=some a0∧w.cell? ⟨m,1,none⟩=some a1∧w.cell? ⟨m,2,none⟩=some a2)∧(w.frozen? ⟨m,0,none⟩=false∧w.frozen? ⟨m,1,none⟩=false∧w.frozen? ⟨m,2,none⟩=false)∧∃ Z,Hid (((w.setCell ⟨m,0,none⟩ x0).setCell ⟨m,1,none⟩ x1).setCell ⟨m,2,none⟩ x2=Z)∧Hid (Z.cell? ⟨m,0,none⟩=some x0∧Z.cell? ⟨m,1,none⟩=some x1∧Z.cell? ⟨m,2,none⟩=some x2)∧Hid (Zc (λ q=>q=m) w Z∧Z.heap[m]? = some (.cells #[x0,x1,x2] t (0,0))):=by
 obtain ⟨p1,p2⟩:=Zhz hb x0 x1 x2;exact ⟨⟨Zb hb 0,Zb hb 1,Zb hb 2⟩,⟨Zg hb 0,Zg hb 1,Zg hb 2⟩,_,rfl,⟨Zb p1 0,Zb p1 1,Zb p1 2⟩,p2,p1⟩
theorem Zen (h:Zaq w y sp V L R) (hg:GoodR L R) (hT:Arg w tto T tc) (hc:Zd L T=0) (hcl:∀ x∈T,0<=x) (ha:a<T.length) :
  Calls prog 62 #[.pointer (some ⟨y,0,none⟩),.slice tto T.length tc,.int .i64 (a:Int)] w λ e w' => Za w w' ∧ ((∃ i,∃ hi:i<R.length,Vu L T a 0 R=some i∧Zgk L T a R[i]=true∧∃ b bs ro rc g c g' c', e=.returned (.tuple #[.pointer (some ⟨b,0,none⟩),.agg #[.slice (some ⟨g,0,none⟩) R[i].1.length c,.slice (some ⟨g', 0,none⟩) R[i].2.length c', .int .i64 (i:Int)],.nilIface])∧Zcu w' b bs ro rc tto tc L R T∧Yu w' g c R[i].1∧Yu w' g' c' R[i].2) ∨
   (Vu L T a 0 R=none∧∃ q,e=.returned (.tuple #[.pointer none,.agg #[.slice none 0 0,.slice none 0 0,.int .i64 0],.iface 114 (.pointer (some ⟨q,0,none⟩))])∧Zn w' [(182,(a:Int))] (.iface 114 (.pointer (some ⟨q,0,none⟩))))):=by
 have hn0:=Za6;have h2000:=(Ze.1 hc).1;obtain ⟨W1,hW1⟩:∃ W1,W1=w.alloc (.cells #[.slice none 0 0,.slice none 0 0,.int .i64 0] 144):=⟨_,rfl⟩;have KW:Za w W1:=by rw [hW1];exact Zal9
 have bx:W1.heap[w.heap.size]? = some (.cells #[.slice none 0 0,.slice none 0 0,.int .i64 0] 144 (0,0)):=by rw [hW1];exact heap_alloc_new _ _
 have C:=Zac (h.same KW) hg (hT.same KW) hc hcl;have CR:Hid (∀ w2 b bs ro rc,Zcu w2 b bs ro rc tto tc L R T->Calls prog 102 #[.pointer (some ⟨b,0,none⟩),.int .i64 (a:Int)] w2 (Zsa L R T a w2)):=λ w2 b bs ro rc h2=>Zgd h2 ha;have i1:¬ (a:Int)<0:=by omega
 have i2:¬ (a:Int) ≥ (T.length:Int):=by omega
 have i3:decide ((T.length:Int)<=(a:Int))=false:=by simp;omega
 have i4:decide ((a:Int)<0)=false:=by simp
 have KF:Hid (Za w W1):=KW;have BX:Hid (∀ ww,Za W1 ww->ww.heap[w.heap.size]? = some (.cells #[.slice none 0 0,.slice none 0 0,.int .i64 0] 144 (0,0))):=λ ww hk=>hk.at0 bx;have HT:Hid (∀ ww,Za w ww->Arg ww tto T tc):=λ ww hk=>hT.same hk;clear h hT hc hcl KW bx;cases hr:Vu L T a 0 R with
 | none=>
  have CR2:Hid (∀ w2 b bs ro rc,Zcu w2 b bs ro rc tto tc L R T->Calls prog 102 #[.pointer (some ⟨b,0,none⟩),.int .i64 (a:Int)] w2 λ e w' => e=.returned (.tuple #[.agg #[.slice none 0 0,.slice none 0 0,.int .i64 0],.bool false])∧Za w2 w'):=λ w2 b bs ro rc h2=>(CR.out w2 b bs ro rc h2).mono (by
   rintro e w' ⟨h1,⟨i,hi,h3,_⟩ | ⟨_,h3⟩⟩
   ·rw [hr] at h3;cases h3
   ·exact ⟨h3,h1⟩)
  have FIN:Hid (∀ w3,Za W1 w3->∃ w5,Hid ((w3.alloc (.cells #[.slice none 0 0,.slice none 0 0,.int .i64 0] 144)).alloc (.cells #[.int .i64 182,.int .i64 (a:Int),.nilIface] 116)=w5)∧Za W1 w5∧Zn w5 [(182,(a:Int))] (.iface 114 (.pointer (some ⟨w3.heap.size+1,0,none⟩)))):=λ w3 hk=>by
   have k:Za w3 ((w3.alloc (.cells #[.slice none 0 0,.slice none 0 0,.int .i64 0] 144)).alloc (.cells #[.int .i64 182,.int .i64 (a:Int),.nilIface] 116)):=(Zal9).alloc _;exact ⟨_,rfl,hk.trans' k,.inr ⟨by omega,_,_,rfl,Zo _ _ _,rfl⟩⟩
  clear CR
  go_enter func62,ntmps62
  go_upto_region 1 with fail
  rw [<- hW1];clear hW1
  go_upto_region 8 with (first
   | (go_at_call 64;refine C.mono ?_;rintro e w2 ⟨b,bs,ro,rc,rfl,h2,k2,hro⟩;have C2:=CR2.out w2 b bs ro rc h2)
   | (go_at_call 102;refine C2.mono ?_;rintro e w3 ⟨rfl,k3⟩))
  obtain ⟨w5,hw5,k5,hf5⟩:=FIN.out w3 (k2.trans' k3);obtain ⟨⟨z0,z1,z2⟩,⟨f0,f1,f2⟩,Z,hZ,hZ2,hZ3⟩:=Zqi (BX.out w5 k5) (.slice none 0 0) (.slice none 0 0) (.int .i64 0)
  have HP:Hid (Za w Z∧Zn Z [(182,(a:Int))] (.iface 114 (.pointer (some ⟨w3.heap.size+1,0,none⟩)))):=by
   refine ⟨Zc.trans (KF.out.trans' k5) hZ3.out.1 (λ i hi e=>by have e' : i=w.heap.size:=e;omega),Zn.keptN hZ3.out.1 (λ c hc=>?_) hf5⟩;have:=BX.out w5 k5;rw [this] at hc;cases hc
  clear FIN C C2 CR2 h2 k2 k3 k5 hf5 BX KF HT hro;rw [<- hw5.out] at z0 z1 z2 f0 f1 f2;go_wp2;rw [hw5.out,hZ.out];exact bodyPost_ret (v:=.tuple #[.pointer none,.agg #[.slice none 0 0,.slice none 0 0,.int .i64 0],.iface 114 (.pointer (some ⟨w3.heap.size+1,0,none⟩))]) (by simp [results,results62,go_sem,hZ2.out.1,hZ2.out.2.1,hZ2.out.2.2]) rfl ⟨HP.out.1,.inr ⟨by first | trivial | rfl,_,rfl,HP.out.2⟩⟩
 | some i=>
  have CR2:Hid (∀ w2 b bs ro rc,Zcu w2 b bs ro rc tto tc L R T->Calls prog 102 #[.pointer (some ⟨b,0,none⟩),.int .i64 (a:Int)] w2 λ e w' => ∃ g n1 c g' n2 c', e=.returned (.tuple #[.agg #[.slice (some ⟨g,0,none⟩) n1 c,.slice (some ⟨g', 0,none⟩) n2 c', .int .i64 (i:Int)],.bool true])∧Za w2 w' ∧ Hid (∃ hi:i<R.length,n1=R[i].1.length∧n2=R[i].2.length∧Zgk L T a R[i]=true∧Yu w' g c R[i].1∧Yu w' g' c' R[i].2)):=λ w2 b bs ro rc h2=>(CR.out w2 b bs ro rc h2).mono (by
   rintro e w' ⟨h1,⟨i', hi,h3,hq,g,c,g', c', h4,t1,t2⟩ | ⟨h3,_⟩⟩
   ·rw [hr] at h3;cases h3
    exact ⟨g,_,c,g', _,c', h4,h1,hi,rfl,rfl,hq,t1,t2⟩
   ·rw [hr] at h3;cases h3)
  clear CR
  go_enter func62,ntmps62
  go_upto_region 1 with fail
  rw [<- hW1];clear hW1
  go_upto_region 9 with (first
   | (go_at_call 64;refine C.mono ?_;rintro e w2 ⟨b,bs,ro,rc,rfl,h2,k2,hro⟩;have C2:=CR2.out w2 b bs ro rc h2)
   | (go_at_call 102;refine C2.mono ?_;rintro e w3 ⟨g,n1,c,g', n2,c', rfl,k3,hA⟩))
  obtain ⟨w4,hw4⟩:∃ w4,w4=w3.alloc (.cells #[.slice (some ⟨g,0,none⟩) n1 c,.slice (some ⟨g', 0,none⟩) n2 c', .int .i64 (i:Int)] 144):=⟨_,rfl⟩;have k4:Za w3 w4:=by rw [hw4];exact Zal9
  have b4:w4.heap[w3.heap.size]? = some (.cells #[.slice (some ⟨g,0,none⟩) n1 c,.slice (some ⟨g', 0,none⟩) n2 c', .int .i64 (i:Int)] 144 (0,0)):=by rw [hw4];exact heap_alloc_new _ _
  have k4d:Za w3 w4.drew:=k4.trans' (Zc.refl _ _).drew;have KK:Za W1 w4.drew:=(k2.trans' k3).trans' k4d;have b4d:=(show Za w4 w4.drew from (Zc.refl _ _).drew).at0 b4;have hz3:=k3.size;have hz2:=k2.size;have hb1:=Zi (BX.out W1 (Zc.refl _ _));obtain ⟨⟨z0,z1,z2⟩,⟨f0,f1,f2⟩,Z,hZ,hZ2,hZ3⟩:=Zqi (BX.out w4.drew KK) (.slice (some ⟨g,0,none⟩) n1 c) (.slice (some ⟨g', 0,none⟩) n2 c') (.int .i64 (i:Int));have bZ:=hZ3.out.1.at b4d (λ e=>by have e' : w3.heap.size=w.heap.size:=e;omega);have cc0:w4.drew.cell? ⟨w3.heap.size,0,none⟩=some (.slice (some ⟨g,0,none⟩) n1 c)∧w4.drew.cell? ⟨w3.heap.size,1,none⟩=some (.slice (some ⟨g', 0,none⟩) n2 c')∧w4.drew.cell? ⟨w3.heap.size,2,none⟩=some (.int .i64 (i:Int)):=⟨Zb b4d 0,Zb b4d 1,Zb b4d 2⟩
  have cc1:(((w4.drew.setCell ⟨w.heap.size,0,none⟩ (.slice (some ⟨g,0,none⟩) n1 c)).setCell ⟨w.heap.size,1,none⟩ (.slice (some ⟨g', 0,none⟩) n2 c')).setCell ⟨w.heap.size,2,none⟩ (.int .i64 (i:Int))).cell? ⟨w3.heap.size,0,none⟩=some (.slice (some ⟨g,0,none⟩) n1 c)∧(((w4.drew.setCell ⟨w.heap.size,0,none⟩ (.slice (some ⟨g,0,none⟩) n1 c)).setCell ⟨w.heap.size,1,none⟩ (.slice (some ⟨g', 0,none⟩) n2 c')).setCell ⟨w.heap.size,2,none⟩ (.int .i64 (i:Int))).cell? ⟨w3.heap.size,1,none⟩=some (.slice (some ⟨g', 0,none⟩) n2 c')∧(((w4.drew.setCell ⟨w.heap.size,0,none⟩ (.slice (some ⟨g,0,none⟩) n1 c)).setCell ⟨w.heap.size,1,none⟩ (.slice (some ⟨g', 0,none⟩) n2 c')).setCell ⟨w.heap.size,2,none⟩ (.int .i64 (i:Int))).cell? ⟨w3.heap.size,2,none⟩=some (.int .i64 (i:Int)):=by
   rw [hZ.out];exact ⟨Zb bZ 0,Zb bZ 1,Zb bZ 2⟩
  have HP:Hid (Za w Z∧∃ hi:i<R.length,n1=R[i].1.length∧n2=R[i].2.length∧Zgk L T a R[i]=true∧Zcu Z b bs ro rc tto tc L R T∧Yu Z g c R[i].1∧Yu Z g' c' R[i].2):=by
   obtain ⟨hi,e1,e2,e3,t1,t2⟩:=hA.out
   have no:∀ k,(λ q=>q=w.heap.size) k->∀ cur,w4.drew.heap[k]? ≠ some (.cells cur 3 (0,0)):=λ k e cur hcur=>by
    have e' : k=w.heap.size:=e;rw [e', BX.out w4.drew KK] at hcur;cases hcur
   refine ⟨Zc.trans (KF.out.trans' KK) hZ3.out.1 (λ i hi e=>by have e' : i=w.heap.size:=e;omega),hi,e1,e2,e3,?_,(t1.same k4d).kept hZ3.out.1 no,(t2.same k4d).kept hZ3.out.1 no⟩;exact (h2.same (k3.trans' k4d)).keptM hZ3.out.1 (BX.out w4.drew KK) (λ q e1 e2=>by have:=hro q e1;omega) (HT.out Z (Zc.trans (KF.out.trans' KK) hZ3.out.1 (λ i hi e=>by have e' : i=w.heap.size:=e;omega)))
  clear C C2 CR2 h2 k2 k3 hA BX KF k4 k4d KK b4 b4d bZ HT hro;rw [<- hw4];clear hw4;obtain ⟨l0,l1,l2⟩:=cc0;clear cc1;have y0:w4.cell? ⟨w.heap.size,0,none⟩=some (.slice none 0 0):=z0;have y1:w4.cell? ⟨w.heap.size,1,none⟩=some (.slice none 0 0):=z1;have y2:w4.cell? ⟨w.heap.size,2,none⟩=some (.int .i64 0):=z2;have e0:w4.frozen? ⟨w.heap.size,0,none⟩=false:=f0;have e1:w4.frozen? ⟨w.heap.size,1,none⟩=false:=f1;have e2:w4.frozen? ⟨w.heap.size,2,none⟩=false:=f2;have hZ' : Hid ((((w4.setCell ⟨w.heap.size,0,none⟩ (.slice (some ⟨g,0,none⟩) n1 c)).setCell ⟨w.heap.size,1,none⟩ (.slice (some ⟨g', 0,none⟩) n2 c')).setCell ⟨w.heap.size,2,none⟩ (.int .i64 (i:Int))).drew=Z):=hZ.out
  go_region
  all_goals
   go_wp2;rw [hZ'.out];obtain ⟨p1,hi,rfl,rfl,p2,p3,p4,p5⟩:=HP.out;exact bodyPost_ret (v:=.tuple #[.pointer (some ⟨b,0,none⟩),.agg #[.slice (some ⟨g,0,none⟩) R[i].1.length c,.slice (some ⟨g', 0,none⟩) R[i].2.length c', .int .i64 (i:Int)],.nilIface]) (by simp [results,results62,go_sem,hZ2.out.1,hZ2.out.2.1,hZ2.out.2.2]) rfl ⟨p1,.inl ⟨i,hi,by first | trivial | rfl,p2,b,bs,ro,rc,g,c,g', c', rfl,p3,p4,p5⟩⟩
theorem Zfb (h:Zaq w y sp V L R) (hg:GoodR L R) (hT:Arg w tto T tc) (hc:Zd L T=0) (hcl:∀ x∈T,0<=x) {a:Nat} (ha:a<T.length) (hi:i<R.length) (hr:Vu L T a 0 R=some i)
  (h1:Yq L R[i].2 (Yw L R[i].1 T (a:Int))=0) (h2:Zfl L T (a:Int) (J2 L R[i] T a)=0) :
  Calls prog 32 #[.pointer (some ⟨y,0,none⟩),.slice tto T.length tc,.int .i64 (a:Int)] w λ e w' => ∃ uo uc,e=.returned (.tuple #[.slice uo (Ka L R[i] T a).length uc,.int .i64 (i:Int),.nilIface])∧Zh w' uo (Ka L R[i] T a)∧Za w w' := by
 have hn0:=Za6
 have C:Calls prog 62 #[.pointer (some ⟨y,0,none⟩),.slice tto T.length tc,.int .i64 (a:Int)] w λ e w' => ∃ b g n1 c g' n2 c', e=.returned (.tuple #[.pointer (some ⟨b,0,none⟩),.agg #[.slice (some ⟨g,0,none⟩) n1 c,.slice (some ⟨g', 0,none⟩) n2 c', .int .i64 (i:Int)],.nilIface])∧Za w w' ∧ Hid (∀ ww,Za w' ww->Calls prog 68 #[.pointer (some ⟨b,0,none⟩),.agg #[.slice (some ⟨g,0,none⟩) n1 c,.slice (some ⟨g', 0,none⟩) n2 c', .int .i64 (i:Int)],.int .i64 (a:Int)] ww λ e w9=>∃ uo uc,e=.returned (.tuple #[.slice uo (Ka L R[i] T a).length uc,.bool false])∧Za ww w9∧Hid (Zh w9 uo (Ka L R[i] T a))):=by
  refine (Zen h hg hT hc hcl ha).mono ?_;rintro e w' ⟨k,⟨i', hi', h3,hq,b,bs,ro,rc,g,c,g', c', rfl,hcl2,t1,t2⟩ | ⟨h3,_⟩⟩
  ·rw [hr] at h3;cases h3
   refine ⟨b,g,_,c,g', _,c', rfl,k,λ ww hk=>(Zfc (hcl2.same hk) hi (t1.same hk) (t2.same hk) (i:Int) ha hq).mono ?_⟩;rintro e w9 ⟨k9,h9⟩;rw [if_pos h1,h2] at h9;obtain ⟨uo,uc,rfl,hu⟩:=h9;exact ⟨uo,uc,rfl,k9,hu⟩
  ·rw [hr] at h3;cases h3
 clear h hT hc hcl h1 h2 hr;generalize Ka L R[i] T a=U at *
 go_enter func32,ntmps32
 go_upto_region 4 with (first
  | (go_at_call 62;refine C.mono ?_;rintro e w2 ⟨b,g,n1,c,g', n2,c', rfl,k2,HC⟩))
 obtain ⟨w3,hw3⟩:∃ w3,w3=w2.alloc (.cells #[.slice (some ⟨g,0,none⟩) n1 c,.slice (some ⟨g', 0,none⟩) n2 c', .int .i64 (i:Int)] 144):=⟨_,rfl⟩;have k3:Za w2 w3:=by rw [hw3];exact Zal9
 have b3:w3.heap[w2.heap.size]? = some (.cells #[.slice (some ⟨g,0,none⟩) n1 c,.slice (some ⟨g', 0,none⟩) n2 c', .int .i64 (i:Int)] 144 (0,0)):=by rw [hw3];exact heap_alloc_new _ _
 have x0:=Zb b3 0;have x1:=Zb b3 1;have x2:=Zb b3 2;simp only [List.getElem?_toArray,List.getElem?_cons_zero,List.getElem?_cons_succ] at x0 x1 x2;have C3:=HC.out w3 k3;have BX:Hid (∀ ww,Za w3 ww->ww.cell? ⟨w2.heap.size,2,none⟩=some (.int .i64 (i:Int))):=λ ww hk=>Zb (hk.at0 b3) 2;rw [<- hw3];clear hw3 b3 HC C
 go_upto_region 7 with (first
  | (go_at_call 68;refine C3.mono ?_;rintro e w4 ⟨uo,uc,rfl,k4,hu⟩;have x4:=BX.out w4 k4))
 have KF:Hid (Za w w4.drew∧Zh w4.drew uo U):=⟨((k2.trans' k3).trans' k4).trans' (Zc.refl _ _).drew,hu.out.same (Zc.refl _ _).drew⟩;clear C3 k2 k3 k4 hu x0 x1 x2 BX
 go_region
 all_goals
  go_wp2;exact bodyPost_ret (v:=.tuple #[.slice uo U.length uc,.int .i64 (i:Int),.nilIface]) (by simp [results,results32,go_sem]) rfl ⟨uo,uc,rfl,KF.out.2,KF.out.1⟩
theorem Zdw (h:Zaq w y sp V L R) (hg:GoodR L R) (hT:Arg w tto T tc) (hc:Zd L T=0) (hcl:∀ x∈T,0<=x) (ha:a<T.length) (hr:Vu L T a 0 R=none) :
  Calls prog 32 #[.pointer (some ⟨y,0,none⟩),.slice tto T.length tc,.int .i64 (a:Int)] w λ e w' => ∃ q,e=.returned (.tuple #[.slice none 0 0,.int .i64 0,.iface 114 (.pointer (some ⟨q,0,none⟩))])∧Zn w' [(182,(a:Int))] (.iface 114 (.pointer (some ⟨q,0,none⟩)))∧Za w w' := by
 have hn1:=Jl
 have C:Calls prog 62 #[.pointer (some ⟨y,0,none⟩),.slice tto T.length tc,.int .i64 (a:Int)] w λ e w' => ∃ q,e=.returned (.tuple #[.pointer none,.agg #[.slice none 0 0,.slice none 0 0,.int .i64 0],.iface 114 (.pointer (some ⟨q,0,none⟩))])∧Hid (∀ o,Zn (w'.alloc o) [(182,(a:Int))] (.iface 114 (.pointer (some ⟨q,0,none⟩)))∧Za w (w'.alloc o)):=by
  refine (Zen h hg hT hc hcl ha).mono ?_;rintro e w' ⟨k,⟨i', hi', h3,_⟩ | ⟨h3,q,rfl,hf⟩⟩
  ·rw [hr] at h3;cases h3
  ·exact ⟨q,rfl,λ o=>⟨Zn.same (Zal9) hf,k.trans' (Zal9)⟩⟩
 clear h hT hc hcl hr
 go_enter func32,ntmps32
 go_wp2_with (first
  | (go_at_call 62;refine C.mono ?_;rintro e w2 ⟨q,rfl,HC⟩))
 exact bodyPost_ret (v:=.tuple #[.slice none 0 0,.int .i64 0,.iface 114 (.pointer (some ⟨q,0,none⟩))]) (by simp [results,results32,go_sem]) rfl ⟨q,rfl,(HC.out _).1,(HC.out _).2⟩
theorem Zev (w:World) (tto:Option Addr) (n c:Nat) (a:Int):Calls prog 62 #[.pointer none,.slice tto n c,.int .i64 a] w λ e w' => ∃ q,e=.returned (.tuple #[.pointer none,.agg #[.slice none 0 0,.slice none 0 0,.int .i64 0],.iface 114 (.pointer (some ⟨q,0,none⟩))])∧Hid (∀ ww,Za w' ww->Zn ww [(1,0)] (.iface 114 (.pointer (some ⟨q,0,none⟩))))∧Za w w' := by
 have hn1:=Jl;obtain ⟨W1,hW1⟩:∃ W1,W1=w.alloc (.cells #[.slice none 0 0,.slice none 0 0,.int .i64 0] 144):=⟨_,rfl⟩;have KW:Za w W1:=by rw [hW1];exact Zal9
 have bx:W1.heap[w.heap.size]? = some (.cells #[.slice none 0 0,.slice none 0 0,.int .i64 0] 144 (0,0)):=by rw [hW1];exact heap_alloc_new _ _
 have C:=Vp W1 tto n c
 go_enter func62,ntmps62
 go_upto_region 1 with fail
 rw [<- hW1];clear hW1
 go_upto_region 3 with (first
  | (go_at_call 64;refine C.mono ?_;rintro e w2 ⟨q,rfl,hf,k2⟩))
 obtain ⟨⟨z0,z1,z2⟩,⟨f0,f1,f2⟩,Z,hZ,hZ2,hZ3⟩:=Zqi (k2.at0 bx) (.slice none 0 0) (.slice none 0 0) (.int .i64 0);have HF:Hid (Za w Z∧Zn Z [(1,0)] (.iface 114 (.pointer (some ⟨q,0,none⟩)))):=⟨Zc.trans (KW.trans' k2) hZ3.out.1 (λ i hi e=>by have e' : i=w.heap.size:=e;omega),Zn.keptN hZ3.out.1 (λ c hc=>by rw [k2.at0 bx] at hc;cases hc) hf⟩;clear hf k2 KW bx C;go_wp2;rw [hZ.out];exact bodyPost_ret (v:=.tuple #[.pointer none,.agg #[.slice none 0 0,.slice none 0 0,.int .i64 0],.iface 114 (.pointer (some ⟨q,0,none⟩))]) (by simp [results,results62,go_sem,hZ2.out.1,hZ2.out.2.1,hZ2.out.2.2]) rfl ⟨q,rfl,λ ww hk=>Zn.same hk HF.out.2,HF.out.1⟩
end
section
open Go.RowKit
theorem V9.inv {l L' : List Sym} {x:Sym}:∀ {l' : List Sym},V9 l' L' -> l' = l ++ [x]->∃ L,V9 l L∧((Ze4 L [x] []∧L' = L ++ [x])∨∃ ws,ws≠[]∧Ze4 L [x] ws∧L' = L):=by
 intro l' h;cases h with
 | nil=>intro e;exact absurd e.symm (by simp)
 | yes h ha=>intro e;obtain ⟨rfl,e2⟩:=List.append_inj' e rfl;cases e2;exact ⟨_,h,.inl ⟨ha,rfl⟩⟩
 | no h ha hn=>intro e;obtain ⟨rfl,e2⟩:=List.append_inj' e rfl;cases e2;exact ⟨_,h,.inr ⟨_,hn,ha,rfl⟩⟩
theorem V9.all {xs:List Sym} (h:∀ n (hn:n<xs.length),Ze4 (xs.take n) [xs[n]] []) (hm:V9 xs L):L=xs:=by
 have key:∀ k,k<=xs.length->∀ L,V9 (xs.take k) L->L=xs.take k:=by
  intro k
  induction k with
  | zero=>intro _ L hL;rw [List.take_zero] at hL ⊢;generalize hq:([]:List Sym)=l0 at hL;cases hL with
   | nil=>rfl
   | yes _ _=>simp at hq
   | no _ _ _=>simp at hq
  | succ k ih=>
   intro hk L hL;have e:xs.take (k+1)=xs.take k ++ [xs[k]]:=by rw [List.take_add_one,List.getElem?_eq_getElem (by omega)];rfl
   obtain ⟨L0,h0,h1⟩:=hL.inv e;obtain rfl:=ih (by omega) L0 h0
   rcases h1 with ⟨_,e1⟩ | ⟨ws,hn,ha,_⟩
   ·rw [e1,e]
   ·exact absurd (ha.uniq (h k (by omega))) hn
 have:=key xs.length (Nat.le_refl _) L (by rw [List.take_length];exact hm)
 rwa [List.take_length] at this
theorem V8.inv {l R' : List Ru} {x:Ru}:∀ {l' : List Ru},V8 L l' R' -> l' = l ++ [x]->∃ R,V8 L l R∧((Zcw L R [x] []∧R' = R ++ [x])∨∃ ws,ws≠[]∧Zcw L R [x] ws∧R' = R):=by
 intro l' h;cases h with
 | nil=>intro e;exact absurd e.symm (by simp)
 | yes h ha=>intro e;obtain ⟨rfl,e2⟩:=List.append_inj' e rfl;cases e2;exact ⟨_,h,.inl ⟨ha,rfl⟩⟩
 | no h ha hn=>intro e;obtain ⟨rfl,e2⟩:=List.append_inj' e rfl;cases e2;exact ⟨_,h,.inr ⟨_,hn,ha,rfl⟩⟩
theorem V8.all {xs:List Ru} (h:∀ n (hn:n<xs.length),Zcw L (xs.take n) [xs[n]] []) (hm:V8 L xs R):R=xs:=by
 have key:∀ k,k<=xs.length->∀ R,V8 L (xs.take k) R->R=xs.take k:=by
  intro k
  induction k with
  | zero=>intro _ R hR;rw [List.take_zero] at hR ⊢;generalize hq:([]:List Ru)=l0 at hR;cases hR with
   | nil=>rfl
   | yes _ _=>simp at hq
   | no _ _ _=>simp at hq
  | succ k ih=>
   intro hk R hR;have e:xs.take (k+1)=xs.take k ++ [xs[k]]:=by rw [List.take_add_one,List.getElem?_eq_getElem (by omega)];rfl
   obtain ⟨R0,h0,h1⟩:=hR.inv e;obtain rfl:=ih (by omega) R0 h0
   rcases h1 with ⟨_,e1⟩ | ⟨ws,hn,ha,_⟩
   ·rw [e1,e]
   ·exact absurd (ha.uniq (h k (by omega))) hn
 have:=key xs.length (Nat.le_refl _) R (by rw [List.take_length];exact hm)
 rwa [List.take_length] at this
abbrev L18:List Sym:=[⟨⟨#[122]⟩,0,false⟩,⟨⟨#[115]⟩,1,false⟩,⟨⟨#[112]⟩,2,false⟩,⟨⟨#[100]⟩,1,true⟩,⟨⟨#[114]⟩,0,true⟩,⟨⟨#[97,100,100]⟩,2,true⟩]
abbrev R18:List Ru:=[([3, -1],[2, -1, -1]),([4],[0]),([5,0, -1],[-1]),([5,1, -1, -2],[1,5, -1, -2])]
theorem nm18_p:X0 ⟨#[112]⟩=true:=by decide +kernel
theorem nm18_d:X0 ⟨#[100]⟩=true:=by decide +kernel
theorem nm18_r:X0 ⟨#[114]⟩=true:=by decide +kernel
theorem syms18:∀ n (hn:n<L18.length),Ze4 (L18.take n) [L18[n]] []:=by
 intro n hn;refine .inl ⟨rfl,λ i hi h1=>?_⟩;obtain rfl:i=0:=by simp at hi;omega
 have hn' : n<6:=hn
 match n,hn' with
 | 0,_=>simp [Zp,nm10_z,Yt]
 | 1,_=>simp [Zp,nm10_s,Yt]
 | 2,_=>simp [Zp,nm18_p,Yt]
 | 3,_=>simp [Zp,nm18_d,Yt]
 | 4,_=>simp [Zp,nm18_r,Yt]
 | 5,_=>simp [Zp,Zwm,Yt]
theorem ans18:∀ n (hn:n<R18.length),Ans L18 (R18.take n) [R18[n]] []:=by
 intro n hn;have hn' : n<4:=hn
 match n,hn' with
 | 0,_=>exact (show Ans L18 [] [([3, -1],[2, -1, -1])] [] from Ans.of_all (by decide +kernel))
 | 1,_=>exact (show Ans L18 [([3, -1],[2, -1, -1])] [([4],[0])] [] from Ans.of_all (by decide +kernel))
 | 2,_=>exact (show Ans L18 [([3, -1],[2, -1, -1]),([4],[0])] [([5,0, -1],[-1])] [] from Ans.of_all (by decide +kernel))
 | 3,_=>exact (show Ans L18 [([3, -1],[2, -1, -1]),([4],[0]),([5,0, -1],[-1])] [([5,1, -1, -2],[1,5, -1, -2])] [] from Ans.of_all (by decide +kernel))
theorem Zy0 (m:Nat):∃ t,Y5 L18 (m+1+1) (Xl L18 3) (Yi L18 [([3, -1],[2, -1, -1])] 3)=.ok t:=⟨_,by rfl⟩
theorem Zyu (m:Nat):∃ t,Y5 L18 (m+1+1) (Xl L18 4) (Yi L18 [([3, -1],[2, -1, -1])] 4)=.ok t:=⟨_,by rfl⟩
theorem Zyt (m:Nat):∃ t,Y5 L18 (m+1+1) (Xl L18 5) (Yi L18 [([3, -1],[2, -1, -1])] 5)=.ok t:=⟨_,by rfl⟩
theorem Zzj (m:Nat):∃ t,Y5 L18 (m+1+1) (Xl L18 3) (Yi L18 [([3, -1],[2, -1, -1]),([4],[0])] 3)=.ok t:=⟨_,by rfl⟩
theorem Zxn (m:Nat):∃ t,Y5 L18 (m+1+1) (Xl L18 4) (Yi L18 [([3, -1],[2, -1, -1]),([4],[0])] 4)=.ok t:=⟨_,by rfl⟩
theorem Zxw (m:Nat):∃ t,Y5 L18 (m+1+1) (Xl L18 5) (Yi L18 [([3, -1],[2, -1, -1]),([4],[0])] 5)=.ok t:=⟨_,by rfl⟩
theorem Zza (m:Nat):∃ t,Y5 L18 (m+1+1) (Xl L18 3) (Yi L18 [([3, -1],[2, -1, -1]),([4],[0]),([5,0, -1],[-1])] 3)=.ok t:=⟨_,by rfl⟩
theorem Zym (m:Nat):∃ t,Y5 L18 (m+1+1) (Xl L18 4) (Yi L18 [([3, -1],[2, -1, -1]),([4],[0]),([5,0, -1],[-1])] 4)=.ok t:=⟨_,by rfl⟩
theorem Zyy (m:Nat):∃ t,Y5 L18 (m+1+1) (Xl L18 5) (Yi L18 [([3, -1],[2, -1, -1]),([4],[0]),([5,0, -1],[-1])] 5)=.ok t:=⟨_,by rfl⟩
theorem Zy6 (m:Nat):∃ t,Y5 L18 (m+1+1) (Xl L18 3) (Yi L18 [([3, -1],[2, -1, -1]),([4],[0]),([5,0, -1],[-1]),([5,1, -1, -2],[1,5, -1, -2])] 3)=.ok t:=⟨_,by rfl⟩
theorem Zzl (m:Nat):∃ t,Y5 L18 (m+1+1) (Xl L18 4) (Yi L18 [([3, -1],[2, -1, -1]),([4],[0]),([5,0, -1],[-1]),([5,1, -1, -2],[1,5, -1, -2])] 4)=.ok t:=⟨_,by rfl⟩
theorem Zyk (m:Nat):∃ t,Y5 L18 (m+1+1) (Xl L18 5) (Yi L18 [([3, -1],[2, -1, -1]),([4],[0]),([5,0, -1],[-1]),([5,1, -1, -2],[1,5, -1, -2])] 5)=.ok t:=⟨_,by rfl⟩
theorem fork18:∀ n (hn:n<R18.length),Jy L18 (R18.take n ++ [R18[n]]) L18.length:=by
 intro n hn k hk hd;have hn' : n<4:=hn;have hk' : k<6:=hk
 match n,hn' with
 | 0,_=>
  match k,hk' with
  | 0,_=>exact absurd hd (by decide)
  | 1,_=>exact absurd hd (by decide)
  | 2,_=>exact absurd hd (by decide)
  | 3,_=>exact Zy0 1999
  | 4,_=>exact Zyu 1999
  | 5,_=>exact Zyt 1999
 | 1,_=>
  match k,hk' with
  | 0,_=>exact absurd hd (by decide)
  | 1,_=>exact absurd hd (by decide)
  | 2,_=>exact absurd hd (by decide)
  | 3,_=>exact Zzj 1999
  | 4,_=>exact Zxn 1999
  | 5,_=>exact Zxw 1999
 | 2,_=>
  match k,hk' with
  | 0,_=>exact absurd hd (by decide)
  | 1,_=>exact absurd hd (by decide)
  | 2,_=>exact absurd hd (by decide)
  | 3,_=>exact Zza 1999
  | 4,_=>exact Zym 1999
  | 5,_=>exact Zyy 1999
 | 3,_=>
  match k,hk' with
  | 0,_=>exact absurd hd (by decide)
  | 1,_=>exact absurd hd (by decide)
  | 2,_=>exact absurd hd (by decide)
  | 3,_=>exact Zy6 1999
  | 4,_=>exact Zzl 1999
  | 5,_=>exact Zyk 1999
theorem Zxm:∀ n (hn:n<R18.length),Zcw L18 (R18.take n) [R18[n]] []:=λ n hn=>.inr (.inr ⟨ans18 n hn,fork18 n hn,rfl⟩)
theorem Zrx (h:V9 L18 L) (h2:V8 L R18 R):L=L18∧R=R18:=by
 obtain rfl:=V9.all syms18 h;exact ⟨rfl,V8.all Zxm h2⟩
end
section
open Go.RowKit
attribute [local go_sem ↓] Go.wp_at_zero Go.wp_at_succ
theorem Ztm (w:World) (T:TypeId):Xw (w.alloc (.cells #[.string ⟨#[122]⟩,.int .i64 0,.bool false,.string ⟨#[115]⟩,.int .i64 1,.bool false,.string ⟨#[112]⟩,.int .i64 2,.bool false,.string ⟨#[100]⟩,.int .i64 1,.bool true,.string ⟨#[114]⟩,.int .i64 0,.bool true,.string ⟨#[97,100,100]⟩,.int .i64 2,.bool true] T)) (some ⟨w.heap.size,0,none⟩) L18.length L18:=by
 refine ⟨rfl,.inr ⟨_,_,rfl,by simp,λ i hi=>?_⟩,?_⟩
 ·have hi' : i<6:=by simpa using hi
  rw [Zb (heap_alloc_new w _),Zb (heap_alloc_new w _),Zb (heap_alloc_new w _)]
  match i,hi' with
  | 0,_=>exact ⟨rfl,rfl,rfl⟩
  | 1,_=>exact ⟨rfl,rfl,rfl⟩
  | 2,_=>exact ⟨rfl,rfl,rfl⟩
  | 3,_=>exact ⟨rfl,rfl,rfl⟩
  | 4,_=>exact ⟨rfl,rfl,rfl⟩
  | 5,_=>exact ⟨rfl,rfl,rfl⟩
 ·intro x hx
  simp at hx
  rcases hx with rfl | rfl | rfl | rfl | rfl | rfl <;> exact ⟨by decide +kernel,by decide +kernel⟩
theorem Zx7 (w:World) (x1 y1 x2 y2 x3 y3 x4 y4:List Int) (T T9:TypeId) (b1:x1.length<=2000) (b2:y1.length<=2000) (b3:x2.length<=2000) (b4:y2.length<=2000) (b5:x3.length<=2000) (b6:y3.length<=2000) (b7:x4.length<=2000) (b8:y4.length<=2000) {o1 o2 o3 o4 o5 o6 o7 o8 o9:Obj}
  (h1:o1=.cells (iv x1).toArray T (0,0)) (h2:o2=.cells (iv y1).toArray T (0,0)) (h3:o3=.cells (iv x2).toArray T (0,0)) (h4:o4=.cells (iv y2).toArray T (0,0)) (h5:o5=.cells (iv x3).toArray T (0,0)) (h6:o6=.cells (iv y3).toArray T (0,0)) (h7:o7=.cells (iv x4).toArray T (0,0)) (h8:o8=.cells (iv y4).toArray T (0,0))
  (h9:o9=.cells #[.slice (some ⟨w.heap.size,0,none⟩) x1.length x1.length,.slice (some ⟨w.heap.size+1,0,none⟩) y1.length y1.length,.slice (some ⟨w.heap.size+1+1,0,none⟩) x2.length x2.length,.slice (some ⟨w.heap.size+1+1+1,0,none⟩) y2.length y2.length,.slice (some ⟨w.heap.size+1+1+1+1,0,none⟩) x3.length x3.length,.slice (some ⟨w.heap.size+1+1+1+1+1,0,none⟩) y3.length y3.length,.slice (some ⟨w.heap.size+1+1+1+1+1+1,0,none⟩) x4.length x4.length,.slice (some ⟨w.heap.size+1+1+1+1+1+1+1,0,none⟩) y4.length y4.length] T9 (0,0)) :
  Vh (((((((((w.alloc o1).alloc o2).alloc o3).alloc o4).alloc o5).alloc o6).alloc o7).alloc o8).alloc o9) (some ⟨w.heap.size+1+1+1+1+1+1+1+1,0,none⟩) [(x1,y1),(x2,y2),(x3,y3),(x4,y4)]∧Za w (((((((((w.alloc o1).alloc o2).alloc o3).alloc o4).alloc o5).alloc o6).alloc o7).alloc o8).alloc o9):=by
 have k1:Za w (w.alloc o1):=Zal9;have k2:Za (w.alloc o1) ((w.alloc o1).alloc o2):=Zal9;have k3:Za ((w.alloc o1).alloc o2) (((w.alloc o1).alloc o2).alloc o3):=Zal9;have k4:Za (((w.alloc o1).alloc o2).alloc o3) ((((w.alloc o1).alloc o2).alloc o3).alloc o4):=Zal9;have k5:Za ((((w.alloc o1).alloc o2).alloc o3).alloc o4) (((((w.alloc o1).alloc o2).alloc o3).alloc o4).alloc o5):=Zal9;have k6:Za (((((w.alloc o1).alloc o2).alloc o3).alloc o4).alloc o5) ((((((w.alloc o1).alloc o2).alloc o3).alloc o4).alloc o5).alloc o6):=Zal9;have k7:Za ((((((w.alloc o1).alloc o2).alloc o3).alloc o4).alloc o5).alloc o6) (((((((w.alloc o1).alloc o2).alloc o3).alloc o4).alloc o5).alloc o6).alloc o7):=Zal9;have k8:Za (((((((w.alloc o1).alloc o2).alloc o3).alloc o4).alloc o5).alloc o6).alloc o7) ((((((((w.alloc o1).alloc o2).alloc o3).alloc o4).alloc o5).alloc o6).alloc o7).alloc o8):=Zal9;have k9:Za ((((((((w.alloc o1).alloc o2).alloc o3).alloc o4).alloc o5).alloc o6).alloc o7).alloc o8) (((((((((w.alloc o1).alloc o2).alloc o3).alloc o4).alloc o5).alloc o6).alloc o7).alloc o8).alloc o9):=Zal9;have a1:=(((((((((Xq w x1 T b1 h1).same k2).same k3).same k4).same k5).same k6).same k7).same k8).same k9);have a2:=((((((((Xq (w.alloc o1) y1 T b2 h2).same k3).same k4).same k5).same k6).same k7).same k8).same k9);have a3:=(((((((Xq ((w.alloc o1).alloc o2) x2 T b3 h3).same k4).same k5).same k6).same k7).same k8).same k9);have a4:=((((((Xq (((w.alloc o1).alloc o2).alloc o3) y2 T b4 h4).same k5).same k6).same k7).same k8).same k9);have a5:=(((((Xq ((((w.alloc o1).alloc o2).alloc o3).alloc o4) x3 T b5 h5).same k6).same k7).same k8).same k9);have a6:=((((Xq (((((w.alloc o1).alloc o2).alloc o3).alloc o4).alloc o5) y3 T b6 h6).same k7).same k8).same k9)
 have a7:=(((Xq ((((((w.alloc o1).alloc o2).alloc o3).alloc o4).alloc o5).alloc o6) x4 T b7 h7).same k8).same k9);have a8:=((Xq (((((((w.alloc o1).alloc o2).alloc o3).alloc o4).alloc o5).alloc o6).alloc o7) y4 T b8 h8).same k9);have hb:=heap_alloc_new ((((((((w.alloc o1).alloc o2).alloc o3).alloc o4).alloc o5).alloc o6).alloc o7).alloc o8) o9;simp only [World.size_alloc] at a2 a3 a4 a5 a6 a7 a8 hb;rw [h9] at hb;refine ⟨.inr ⟨_,0,rfl,by simp,λ i hi=>?_⟩,((((((((k1.trans' k2).trans' k3).trans' k4).trans' k5).trans' k6).trans' k7).trans' k8).trans' k9)⟩;rw [h9] at *;have hi' : i<4:=by simpa using hi
 match i,hi' with
 | 0,_=>exact ⟨_,_,_,_,Zb hb 0,Zb hb 1,a1,a2⟩
 | 1,_=>exact ⟨_,_,_,_,Zb hb 2,Zb hb 3,a3,a4⟩
 | 2,_=>exact ⟨_,_,_,_,Zb hb 4,Zb hb 5,a5,a6⟩
 | 3,_=>exact ⟨_,_,_,_,Zb hb 6,Zb hb 7,a7,a8⟩
theorem Zgs (w:World):Calls prog 59 #[] w λ e w' => ∃ g,e=.returned (.slice (some ⟨g,0,none⟩) L18.length 6)∧Xw w' (some ⟨g,0,none⟩) L18.length L18∧Za w w' := by
 have HS:Hid (∀ T,Xw (w.alloc (.cells #[.string ⟨#[122]⟩,.int .i64 0,.bool false,.string ⟨#[115]⟩,.int .i64 1,.bool false,.string ⟨#[112]⟩,.int .i64 2,.bool false,.string ⟨#[100]⟩,.int .i64 1,.bool true,.string ⟨#[114]⟩,.int .i64 0,.bool true,.string ⟨#[97,100,100]⟩,.int .i64 2,.bool true] T)) (some ⟨w.heap.size,0,none⟩) L18.length L18):=λ T=>Ztm w T
 go_enter func59,ntmps59
 go_wp2;go_ret;exact ⟨_,rfl,HS.out _,Zal9⟩
theorem Zlh (w:World):Calls prog 60 #[] w λ e w' => ∃ g,e=.returned (.slice (some ⟨g,0,none⟩) R18.length 4)∧Vh w' (some ⟨g,0,none⟩) R18∧Za w w' := by
 go_enter func60,ntmps60
 go_wp2;go_ret;exact ⟨_,rfl,Zx7 w [3, -1] [2, -1, -1] [4] [0] [5,0, -1] [-1] [5,1, -1, -2] [1,5, -1, -2] _ _ (by decide) (by decide) (by decide) (by decide) (by decide) (by decide) (by decide) (by decide) rfl rfl rfl rfl rfl rfl rfl rfl rfl⟩
end
section
open Go.RowKit
theorem Zpt (hE:ErrT w) {g2:Nat} (hx:Xw w (some ⟨g,0,none⟩) L18.length L18) (hl:Vh w (some ⟨g2,0,none⟩) R18) :
  Calls prog 58 #[.slice (some ⟨g,0,none⟩) L18.length 6,.slice (some ⟨g2,0,none⟩) R18.length 4] w λ e w' => ∃ y m sp so sc lv vs,e=.returned (.tuple #[.pointer (some ⟨y,0,none⟩),.pointer (some ⟨m,0,none⟩),.bool true])∧TwY w w' y m sp so sc L18 R18 lv vs:=by
 refine (Zpo (cap:=6) (lc:=4) hE hx (by unfold maxLen;decide) (by decide) hl (by decide) (by decide)).mono ?_;rintro e w' ⟨y,m,sp,so,sc,L,R,lv,vs,rfl,hT,hS,hR⟩;obtain ⟨rfl,rfl⟩:=Zrx hS hR;exact ⟨y,m,sp,so,sc,lv,vs,rfl,hT⟩
end
section
open Go.RowKit
attribute [local go_sem ↓] Go.wp_at_zero Go.wp_at_succ
def eqI (xs ys:List Int):Bool:=decide (xs=ys)
theorem eqI_no {k:Nat} (h1:k<xs.length) (h2:k<ys.length) (h:xs[k]≠ys[k]):eqI xs ys=false:=by
 unfold eqI;simp;rintro rfl;exact h rfl
theorem Zy3 (hl:xs.length=ys.length) (h:∀ k (h1:k<xs.length) (h2:k<ys.length),xs[k]=ys[k]):eqI xs ys=true:=by
 unfold eqI;simp;exact List.ext_getElem hl (λ k h1 h2=>h k h1 h2)
theorem Zi7 {ao bo:Option Addr} (ac bc:Nat) (hx:Zh w ao xs) (hy:Zh w bo ys) (hm:xs.length<=maxLen) :
  Calls prog 61 #[.slice ao xs.length ac,.slice bo ys.length bc] w λ e w' => e=.returned (.bool (eqI xs ys))∧Za w w' := by
 unfold maxLen at hm
 by_cases hl:xs.length=ys.length
 ·have hl' : (xs.length:Int)=(ys.length:Int):=by omega
  have HX:Hid (∀ ww,Za w ww->∀ k (hk:k<xs.length),∃ b off,ao=some ⟨b,off,none⟩∧ww.cell? ⟨b,off+k,none⟩=some (.int .i64 xs[k])):=λ ww hw k hk=>by
   obtain ⟨b,off,e,_,hc⟩:=(hx.same hw).get hk;exact ⟨b,off,e,hc⟩
  have HY:Hid (∀ ww,Za w ww->∀ k (hk:k<ys.length),∃ b off,bo=some ⟨b,off,none⟩∧ww.cell? ⟨b,off+k,none⟩=some (.int .i64 ys[k])):=λ ww hw k hk=>by
   obtain ⟨b,off,e,_,hc⟩:=(hy.same hw).get hk;exact ⟨b,off,e,hc⟩
  have HL:Hid (xs.length=ys.length):=hl;have KR:Za w w:=Zc.refl _ _;clear hx hy hl
  go_enter func61,ntmps61
  go_wp2
  go_loopw [5] (λ i wr=>∃ k:Nat,k<=xs.length∧i=.int .i64 k∧Hid (∀ j (h1:j<xs.length) (h2:j<ys.length),j<k->xs[j]=ys[j])∧Za w wr) (λ i _=>xs.length-(intOf i).toNat)
  case atStart=>exact ⟨0,Nat.zero_le _,rfl,λ j _ _ hj=>absurd hj (Nat.not_lt_zero _),KR⟩
  case round=>
   clear KR;obtain ⟨k,hk,rfl,hall,hw⟩:=hrel
   by_cases hlt:k<xs.length
   ·have hlt' : k<ys.length:=by rw [<- HL.out];exact hlt
    obtain ⟨b,off,rfl,hc⟩:=HX.out wr hw k hlt;obtain ⟨b', off', rfl,hc'⟩:=HY.out wr hw k hlt';have i1:(0:Int)<=(k:Int):=by omega
    have i2:(k:Int)<(xs.length:Int):=by omega
    have i3:(k:Int)<(ys.length:Int):=by omega
    obtain ⟨u,hu⟩:∃ u,u=xs[k]:=⟨_,rfl⟩;obtain ⟨u', hu'⟩:∃ u', u' = ys[k]:=⟨_,rfl⟩;rw [<- hu] at hc;rw [<- hu'] at hc'
    by_cases he:u=u'
    ·have HE:Hid (xs[k]=ys[k]):=by show _=_;rw [<- hu,<- hu', he]
     clear hu hu' HX HY;subst he
     go_upto_region 6 with fail
     go_quiet (fail);go_wp2;go_roundw
     case rel=>exact ⟨k+1,by omega,by go_num,λ j h1 h2 hj=>by
      by_cases e:j=k
      ·subst e;exact HE.out
      ·exact hall.out j h1 h2 (by omega),hw.drewN _⟩
     case measure=>simp [intOf];omega
    ·have HE:Hid (eqI xs ys=false):=eqI_no hlt hlt' (by rw [<- hu,<- hu'];exact he)
     clear hu hu' HX HY
     go_upto_region 6 with fail
     go_quiet (fail);go_wp2;go_ret;exact ⟨Z5 HE.out.symm,hw.drewN _⟩
   ·obtain rfl:k=xs.length:=by omega
    have HE:Hid (eqI xs ys=true):=Zy3 HL.out (λ j h1 h2=>hall.out j h1 h2 h1);clear HX HY hall;go_wp2;go_ret;exact ⟨Z5 HE.out.symm,hw⟩
 ·have HE:Hid (eqI xs ys=false):=by show _=_;unfold eqI;simp;rintro rfl;exact hl rfl
  have hl' : ¬ (xs.length:Int)=(ys.length:Int):=by omega
  clear hx hy hl
  go_enter func61,ntmps61
  go_wp2;go_ret;exact ⟨Z5 HE.out.symm,Zc.refl _ _⟩
abbrev T18:List Int:=[3,5,0,4]
theorem Zm2:Zd L18 T18=0:=by decide +kernel
theorem Znf:∀ x∈T18,(0:Int)<=x:=by decide +kernel
theorem Zqs:Vx L18 R18 T18=[(0,0),(1,2),(3,1)]:=by decide +kernel
theorem t18_r1:Vu L18 T18 1 0 R18=some 2:=by decide +kernel
theorem t18_r2:Vu L18 T18 2 0 R18=none:=by decide +kernel
theorem t18_b:Yw L18 [5,0, -1] T18 1=[(1,[4])]:=by decide +kernel
theorem t18_a0:Yq L18 [-1] [(1,[4])]=0:=by decide +kernel
theorem t18_a1:Xo L18 [-1] [(1,[4])]=[4]:=by decide +kernel
theorem t18_p0:Zfl L18 T18 1 [4]=0:=by decide +kernel
theorem t18_p1:Zqh L18 T18 1 [4]=[3,4]:=by decide +kernel
theorem t18_al:alB L18 T18 [(0,0),(1,2),(3,1)] 0=false∧alB L18 T18 [(0,0),(1,2),(3,1)] 1=false∧alB L18 T18 [(0,0),(1,2),(3,1)] 3=true:=by decide +kernel
theorem Zmf:J2 L18 ([5,0, -1],[-1]) T18 1=[4]:=by
 show Xo L18 [-1] (Yw L18 [5,0, -1] T18 1)=[4];rw [t18_b,t18_a1]
theorem Zu1:Ka L18 ([5,0, -1],[-1]) T18 1=[3,4]:=by
 unfold Ka;rw [Zmf];exact t18_p1
theorem t18_in (h:Zl4 L18 T18 [(0,0),(1,2),(3,1)] e):e=.returned (.tuple #[.agg #[.int .i64 3,.int .i64 1],.bool true]):=by
 obtain ⟨a0,a1,a2⟩:=t18_al
 rcases h with ⟨k,hk,h1,h2,rfl⟩ | ⟨h1,_⟩
 ·have hk' : k<3:=hk
  match k,hk' with
  | 0,_=>exact absurd h1 (by rw [show ([(0,0),(1,2),(3,1)]:List (Nat × Nat))[0].1=0 from rfl,a0];simp)
  | 1,_=>exact absurd h1 (by rw [show ([(0,0),(1,2),(3,1)]:List (Nat × Nat))[1].1=1 from rfl,a1];simp)
  | 2,_=>rfl
 ·have:=h1 2 (by decide)
  rw [show ([(0,0),(1,2),(3,1)]:List (Nat × Nat))[2].1=3 from rfl,a2] at this;cases this
theorem Zx5 (w:World):(binOp .eql 85 (.agg #[.int .i64 1,.int .i64 2]) (.agg #[.int .i64 1,.int .i64 2])).run prog w=.ok (.bool true) w:=by kernel_rfl
theorem Zxr (w:World):(binOp .eql 85 (.agg #[.int .i64 3,.int .i64 1]) (.agg #[.int .i64 3,.int .i64 1])).run prog w=.ok (.bool true) w:=by kernel_rfl
theorem Zk3 (hE:ErrT w):Calls prog 28 #[] w λ e w' => e=.returned (.bool true)∧Za w w' := by
 have q1:=Zx5;have q2:=Zxr;have q3:=yeq0;have q4:=Jl;have C0:=Zgs w;have HE:Hid (∀ ww,Za w ww->ErrT ww):=λ ww hk=>hE.same hk;clear hE
 go_enter func28,ntmps28
 go_upto_region 4 with (first
  | (go_at_call 59;refine C0.mono ?_;rintro e w1 ⟨g,rfl,hx,k1⟩;have C1:=Zlh w1)
  | (go_at_call 60;refine C1.mono ?_;rintro e w2 ⟨g2,rfl,hl,k2⟩;have C2:=Zpt (HE.out w2 (k1.trans' k2)) (hx.kept k2.below) hl)
  | (go_at_call 58;refine C2.mono ?_;rintro e w3 ⟨y,m,sp,so,sc,lv,vs,rfl,hT3⟩))
 have K3:Za w w3:=(k1.trans' k2).trans' hT3.same;obtain ⟨w4,hw4⟩:∃ w4,w4=w3.alloc (.cells #[.int .i64 3,.int .i64 5,.int .i64 0,.int .i64 4] 3):=⟨_,rfl⟩;have k4:Za w3 w4:=by rw [hw4];exact Zal9
 have A4:Arg w4 (some ⟨w3.heap.size,0,none⟩) T18 4:=by rw [hw4];exact Xq w3 T18 3 (by decide) rfl
 have SY:Hid (∀ ww,Za w4 ww->Zaq ww y sp R18.length L18 R18∧Arg ww (some ⟨w3.heap.size,0,none⟩) T18 4):=λ ww hk=>⟨hT3.sy.same (k4.trans' hk),A4.same hk⟩;have HG:Hid (GoodR L18 R18):=hT3.good
 have C5:Calls prog 30 #[.pointer (some ⟨y,0,none⟩),.slice (some ⟨w3.heap.size,0,none⟩) 4 4] w4 λ e w' => ∃ lo lc,e=.returned (.tuple #[.slice lo 3 lc,.nilIface])∧(∃ q,lo=some ⟨q,0,none⟩∧Hid (∀ ww,Za w' ww->ww.cell? ⟨q,2,none⟩=some (.int .i64 1)∧ww.cell? ⟨q,3,none⟩=some (.int .i64 2)))∧Za w4 w' := by
  obtain ⟨s1,s2⟩:=SY.out w4 (Zc.refl _ _);refine (Zgv s1 HG.out s2 Zm2 Znf).mono ?_;rw [Zqs];rintro e w' ⟨lo,lc,rfl,hx,hk⟩
  rcases hx with h | ⟨q,rfl,hq,hc⟩
  ·cases h
  ·refine ⟨_,lc,rfl,⟨q,rfl,λ ww hk9=>?_⟩,hk⟩
   obtain ⟨c1,c2⟩:=hc 1 (by decide);exact ⟨(hk9.cell (p:=⟨q,2,none⟩) hq (λ f=>f)).trans c1,(hk9.cell (p:=⟨q,3,none⟩) hq (λ f=>f)).trans c2⟩
 have C6:Hid (∀ ww,Za w4 ww->Calls prog 32 #[.pointer (some ⟨y,0,none⟩),.slice (some ⟨w3.heap.size,0,none⟩) 4 4,.int .i64 1] ww λ e w' => ∃ uo uc,e=.returned (.tuple #[.slice uo 2 uc,.int .i64 2,.nilIface])∧Hid (∀ w9,Za w' w9->Zh w9 uo [3,4])∧Za ww w'):=λ ww hk=>by
  obtain ⟨s1,s2⟩:=SY.out ww hk;have:=Zfb s1 HG.out s2 Zm2 Znf (a:=1) (by decide) (i:=2) (by decide) t18_r1 (by show Yq L18 [-1] (Yw L18 [5,0, -1] T18 1)=0;rw [t18_b];exact t18_a0) (by show Zfl L18 T18 1 (J2 L18 ([5,0, -1],[-1]) T18 1)=0;rw [Zmf];exact t18_p0);refine this.mono ?_;rintro e w' ⟨uo,uc,rfl,hu,k⟩;have e1:Ka L18 (R18[2]'(by decide)) T18 1=[3,4]:=Zu1;rw [e1] at hu ⊢;exact ⟨uo,uc,rfl,λ w9 hk9=>hu.same hk9,k⟩
 have C7:Hid (∀ ww,Za w4 ww->Calls prog 32 #[.pointer (some ⟨y,0,none⟩),.slice (some ⟨w3.heap.size,0,none⟩) 4 4,.int .i64 2] ww λ e w' => ∃ q,e=.returned (.tuple #[.slice none 0 0,.int .i64 0,.iface 114 (.pointer (some ⟨q,0,none⟩))])∧Za ww w'):=λ ww hk=>by
  obtain ⟨s1,s2⟩:=SY.out ww hk;exact (Zdw s1 HG.out s2 Zm2 Znf (a:=2) (by decide) t18_r2).mono (by rintro e w' ⟨q,rfl,_,k⟩;exact ⟨q,rfl,k⟩)
 have C8:Hid (∀ ww,Za w4 ww->Calls prog 34 #[.pointer (some ⟨y,0,none⟩),.slice (some ⟨w3.heap.size,0,none⟩) 4 4] ww λ e w' => e=.returned (.tuple #[.agg #[.int .i64 3,.int .i64 1],.bool true,.nilIface])∧Za ww w'):=λ ww hk=>by
  obtain ⟨s1,s2⟩:=SY.out ww hk;refine (Zku s1 HG.out s2 Zm2 Znf).mono ?_;rw [Zqs];rintro e w' ⟨a,b,t,rfl,h,k⟩;have:=t18_in h;simp only [Ending.returned.injEq,Value.tuple.injEq,Array.mk.injEq,List.cons.injEq,Value.agg.injEq,Value.int.injEq,Value.bool.injEq,and_true,true_and] at this;obtain ⟨⟨rfl,rfl⟩,rfl⟩:=this;exact ⟨rfl,k⟩
 have K4:Hid (Za w w4):=K3.trans' k4
 go_upto_region 5 with fail
 rw [<- hw4];clear hw4 C0 C1 C2 HE hx hl k1 k2 hT3 K3 k4 A4 SY HG
 go_upto_region 8 with (first
  | (go_at_call 30;refine C5.mono ?_;rintro e w5 ⟨_,lc,rfl,⟨q,rfl,HX⟩,k5⟩;have C6' := C6.out w5 k5)
  | (go_at_call 32;first
    | (refine C6'.mono ?_;rintro e w6 ⟨uo,uc,rfl,HU,k6⟩;have k56:=k5.trans' k6;have C7' := C7.out w6 k56;clear C6')
    | (refine C7'.mono ?_;rintro e w7 ⟨qf,rfl,k7⟩;have k57:=k56.trans' k7;have C8' := C8.out w7 k57;clear C7')))
 go_upto_region 9 with (first
  | (go_at_call 34;refine C8'.mono ?_;rintro e w8 ⟨rfl,k8⟩))
 have k48:=k57.trans' k8;obtain ⟨w9,hw9⟩:∃ w9,w9=w8.alloc (.cells #[.int .i64 3,.int .i64 1] 85):=⟨_,rfl⟩;have k9:Za w8 w9:=by rw [hw9];exact Zal9
 have b9:w9.heap[w8.heap.size]? = some (.cells #[.int .i64 3,.int .i64 1] 85 (0,0)):=by rw [hw9];exact heap_alloc_new _ _
 obtain ⟨w10,hw10⟩:∃ w10,w10=w9.alloc (.cells #[.int .i64 3,.int .i64 4] 3):=⟨_,rfl⟩;have k10:Za w9 w10:=by rw [hw10];exact Zal9
 have A10:Arg w10 (some ⟨w9.heap.size,0,none⟩) [3,4] 2:=by rw [hw10];exact Xq w9 [3,4] 3 (by decide) rfl
 have CS:=Zi7 (w:=w10) (ao:=uo) (bo:=some ⟨w9.heap.size,0,none⟩) (xs:=[3,4]) (ys:=[3,4]) uc 2 (HU.out w10 (((k7.trans' k8).trans' k9).trans' k10)) A10.at' (by unfold maxLen;decide);have CS2:Calls prog 61 #[.slice uo 2 uc,.slice (some ⟨w9.heap.size,0,none⟩) 2 2] w10 λ e w' => e=.returned (.bool true)∧Za w10 w' := CS
 have FIN:Hid (∀ ww,Za w10 ww->ww.cell? ⟨q,2,none⟩=some (.int .i64 1)∧ww.cell? ⟨q,3,none⟩=some (.int .i64 2)∧ww.cell? ⟨w8.heap.size,0,none⟩=some (.int .i64 3)∧ww.cell? ⟨w8.heap.size,1,none⟩=some (.int .i64 1)∧Hid (Za w ww)):=λ ww hk=>by
  obtain ⟨c1,c2⟩:=HX.out ww (((((k6.trans' k7).trans' k8).trans' k9).trans' k10).trans' hk);have:=(k10.trans' hk).at0 b9;exact ⟨c1,c2,Zb this 0,Zb this 1,(((K4.out.trans' k48).trans' k9).trans' k10).trans' hk⟩
 rw [<- hw9];clear hw9 C5 C6 C7 C8 C8' CS A10 b9 k9 k10 HU HX k48 k8 k7 k6 k5 k56 k57 K4
 go_wp2_with (first
  | (go_at_call 61;rw [<- hw10];refine CS2.mono ?_;rintro e w11 ⟨rfl,k11⟩;obtain ⟨c1,c2,c3,c4,KF⟩:=FIN.out w11 k11))
 go_ret;exact ⟨by first | rfl | simp,KF.out⟩
def Fl1 (w' : World) (q:Nat):Prop:=Hid (∀ ww,Za w' ww->Zn ww [(1,0)] (.iface 114 (.pointer (some ⟨q,0,none⟩))))
theorem Fl1.of (h:Zn w [(1,0)] (.iface 114 (.pointer (some ⟨q,0,none⟩)))):Fl1 w q:=λ ww hk=>Zn.same hk h
theorem Fl1.up {w':World} (h:Fl1 w q) (hk:Za w w'):Fl1 w' q:=λ ww hk2=>h.out ww (hk.trans' hk2)
theorem Zof (hE:ErrT w) {c p:Int} {u:Value} (hb:w.heap[q]? = some (.cells #[.int .i64 c,.int .i64 p,u] 116 (0,0))) :
  Calls prog 63 #[.iface 114 (.pointer (some ⟨q,0,none⟩))] w λ e w' => e=.returned (.int .i64 c)∧Za w w' := by
 obtain ⟨W1,hW1⟩:∃ W1,W1=w.alloc (.cells #[.pointer none] 114):=⟨_,rfl⟩;have KW:Za w W1:=by rw [hW1];exact Zal9
 have bx:W1.heap[w.heap.size]? = some (.cells #[.pointer none] 114 (0,0)):=by rw [hW1];exact heap_alloc_new _ _
 have hq:=Zi hb;have CA:=as_hit ⟨q,0,none⟩ (hE.same KW) bx
 have FIN:Hid (∀ w2,w2.heap[w.heap.size]? = some (.cells #[.pointer (some ⟨q,0,none⟩)] 114 (0,0))->Zc (λ k=>k=w.heap.size) W1 w2->w2.cell? ⟨w.heap.size,0,none⟩=some (.pointer (some ⟨q,0,none⟩))∧w2.cell? ⟨q,0,none⟩=some (.int .i64 c)∧Hid (Za w w2)):=λ w2 h2 k2=>
  ⟨Zb h2 0,Zb (k2.at (KW.at0 hb) (λ e=>by have e' : q=w.heap.size:=e;omega)) 0,Zc.trans KW k2 (λ i hi e=>by have e' : i=w.heap.size:=e;omega)⟩
 clear hE hb KW bx
 go_enter func63,ntmps63
 go_upto_region 2 with fail
 rw [<- hW1];clear hW1
 go_wp2_with (first
  | (go_at_call 103;refine CA.mono ?_;rintro e w2 ⟨rfl,h2,k2⟩;obtain ⟨c0,c1,KF⟩:=FIN.out w2 h2 k2))
 go_ret;exact ⟨by first | rfl | simp,KF.out⟩
theorem Zzr (hE:ErrT w) (tto:Option Addr) (n c:Nat):Calls prog 29 #[.pointer none,.slice tto n c,.int .i64 0] w λ e w' => ∃ q,e=.returned (.tuple #[.int .i64 0,.bool false,.iface 114 (.pointer (some ⟨q,0,none⟩))])∧Fl1 w' q∧Za w w' := by
 have C:=Zev w tto n c 0
 have CC:Hid (∀ w2 q,Za w w2->Zn w2 [(1,0)] (.iface 114 (.pointer (some ⟨q,0,none⟩)))->Calls prog 63 #[.iface 114 (.pointer (some ⟨q,0,none⟩))] w2 λ e w' => e=.returned (.int .i64 1)∧Za w2 w'):=λ w2 q hk hf=>by
  rcases hf with ⟨h,_⟩ | ⟨_,b,u,e,hb,_⟩
  ·cases h
  ·simp only [Value.iface.injEq,Value.pointer.injEq,Option.some.injEq,Addr.mk.injEq,true_and,and_true] at e
   subst e;exact Zof (hE.same hk) hb
 have AL:Hid (∀ w2 o,Za w w2->Za w2 (w2.alloc o)∧Za w (w2.alloc o)):=λ w2 o hk=>⟨Zal9,hk.trans' (Zal9)⟩;clear hE
 go_enter func29,ntmps29
 go_upto_region 2 with (first
  | (go_at_call 62;refine C.mono ?_;rintro e w2 ⟨q,rfl,hf,k2⟩))
 obtain ⟨w3,hw3⟩:∃ w3,w3=w2.alloc (.cells #[.slice none 0 0,.slice none 0 0,.int .i64 0] 144):=⟨_,rfl⟩;obtain ⟨a1,a2⟩:=AL.out w2 (.cells #[.slice none 0 0,.slice none 0 0,.int .i64 0] 144) k2;rw [<- hw3] at a1 a2 ⊢;have C2:=CC.out w3 q a2 (hf.out w3 a1);have HF:Fl1 w3 q:=λ ww hk=>hf.out ww (a1.trans' hk);clear hw3 C CC AL hf k2 a1;have HK:Hid (Za w w3):=a2;clear a2
 go_wp2_with (first
  | (go_at_call 63;refine C2.mono ?_;rintro e w4 ⟨rfl,k4⟩))
 exact bodyPost_ret (v:=.tuple #[.int .i64 0,.bool false,.iface 114 (.pointer (some ⟨q,0,none⟩))]) (by simp [results,results29,go_sem]) rfl ⟨q,rfl,HF.up k4,HK.out.trans' k4⟩
theorem Zlo (w:World) (tto:Option Addr) (n c:Nat):Calls prog 30 #[.pointer none,.slice tto n c] w λ e w' => ∃ q,e=.returned (.tuple #[.slice none 0 0,.iface 114 (.pointer (some ⟨q,0,none⟩))])∧Fl1 w' q∧Za w w' := by
 have hn1:=Jl;have C:=Vp w tto n c
 go_enter func30,ntmps30
 go_wp2_with (first
  | (go_at_call 64;refine C.mono ?_;rintro e w2 ⟨q,rfl,hf,k2⟩;have HF:=Fl1.of hf;clear hf))
 go_ret2
 exact ⟨q,by first | rfl | simp,HF,k2⟩
theorem Zoc (w:World) (tto:Option Addr) (n c:Nat):Calls prog 31 #[.pointer none,.slice tto n c] w λ e w' => ∃ q,e=.returned (.tuple #[.bool false,.iface 114 (.pointer (some ⟨q,0,none⟩))])∧Fl1 w' q∧Za w w' := by
 have hn1:=Jl;have C:=Vp w tto n c
 go_enter func31,ntmps31
 go_wp2_with (first
  | (go_at_call 64;refine C.mono ?_;rintro e w2 ⟨q,rfl,hf,k2⟩;have HF:=Fl1.of hf;clear hf))
 go_ret2
 exact ⟨q,by first | rfl | simp,HF,k2⟩
theorem Zh8 (w:World) (tto:Option Addr) (n c:Nat):Calls prog 32 #[.pointer none,.slice tto n c,.int .i64 0] w λ e w' => ∃ q,e=.returned (.tuple #[.slice none 0 0,.int .i64 0,.iface 114 (.pointer (some ⟨q,0,none⟩))])∧Fl1 w' q∧Za w w' := by
 have hn1:=Jl
 have C:Calls prog 62 #[.pointer none,.slice tto n c,.int .i64 0] w λ e w' => ∃ q,e=.returned (.tuple #[.pointer none,.agg #[.slice none 0 0,.slice none 0 0,.int .i64 0],.iface 114 (.pointer (some ⟨q,0,none⟩))])∧Hid (∀ o,Fl1 (w'.alloc o) q∧Za w (w'.alloc o)):=(Zev w tto n c 0).mono (by
  rintro e w' ⟨q,rfl,hf,k⟩
  exact ⟨q,rfl,λ o=>⟨λ ww hk=>hf.out ww ((show Za w' (w'.alloc o) from Zal9).trans' hk),k.trans' (Zal9)⟩⟩)
 go_enter func32,ntmps32
 go_wp2_with (first
  | (go_at_call 62;refine C.mono ?_;rintro e w2 ⟨q,rfl,HC⟩))
 exact bodyPost_ret (v:=.tuple #[.slice none 0 0,.int .i64 0,.iface 114 (.pointer (some ⟨q,0,none⟩))]) (by simp [results,results32,go_sem]) rfl ⟨q,rfl,(HC.out _).1,(HC.out _).2⟩
theorem Zqk (w:World) (tto:Option Addr) (n c:Nat):Calls prog 33 #[.pointer none,.slice tto n c] w λ e w' => ∃ q,e=.returned (.tuple #[.agg #[.int .i64 0,.int .i64 0],.bool false,.iface 114 (.pointer (some ⟨q,0,none⟩))])∧Fl1 w' q∧Za w w' := by
 have hn1:=Jl;obtain ⟨W1,hW1⟩:∃ W1,W1=w.alloc (.cells #[.int .i64 0,.int .i64 0] 85):=⟨_,rfl⟩;have KW:Za w W1:=by rw [hW1];exact Zal9
 have bx:W1.heap[w.heap.size]? = some (.cells #[.int .i64 0,.int .i64 0] 85 (0,0)):=by rw [hW1];exact heap_alloc_new _ _
 have C:=Vp W1 tto n c
 go_enter func33,ntmps33
 go_upto_region 1 with fail
 rw [<- hW1];clear hW1
 go_upto_region 3 with (first
  | (go_at_call 64;refine C.mono ?_;rintro e w2 ⟨q,rfl,hf,k2⟩))
 obtain ⟨⟨z0,z1⟩,⟨f0,f1⟩,Z,hZ,hZ2,hZ3⟩:=Znc (k2.at0 bx) (.int .i64 0) (.int .i64 0);have HF:Hid (Za w Z∧Fl1 Z q):=⟨Zc.trans (KW.trans' k2) hZ3.out.1 (λ i hi e=>by have e' : i=w.heap.size:=e;omega),Fl1.of (Zn.keptN hZ3.out.1 (λ c hc=>by rw [k2.at0 bx] at hc;cases hc) hf)⟩;clear hf k2 KW bx C;go_wp2;rw [hZ.out];exact bodyPost_ret (v:=.tuple #[.agg #[.int .i64 0,.int .i64 0],.bool false,.iface 114 (.pointer (some ⟨q,0,none⟩))]) (by simp [results,results33,go_sem,hZ2.out.1,hZ2.out.2]) rfl ⟨q,rfl,HF.out.2,HF.out.1⟩
theorem Zqj (w:World) (tto:Option Addr) (n c:Nat):Calls prog 34 #[.pointer none,.slice tto n c] w λ e w' => ∃ q,e=.returned (.tuple #[.agg #[.int .i64 0,.int .i64 0],.bool false,.iface 114 (.pointer (some ⟨q,0,none⟩))])∧Fl1 w' q∧Za w w' := by
 have hn1:=Jl;obtain ⟨W1,hW1⟩:∃ W1,W1=w.alloc (.cells #[.int .i64 0,.int .i64 0] 85):=⟨_,rfl⟩;have KW:Za w W1:=by rw [hW1];exact Zal9
 have bx:W1.heap[w.heap.size]? = some (.cells #[.int .i64 0,.int .i64 0] 85 (0,0)):=by rw [hW1];exact heap_alloc_new _ _
 have C:=Vp W1 tto n c
 go_enter func34,ntmps34
 go_upto_region 1 with fail
 rw [<- hW1];clear hW1
 go_upto_region 3 with (first
  | (go_at_call 64;refine C.mono ?_;rintro e w2 ⟨q,rfl,hf,k2⟩))
 obtain ⟨⟨z0,z1⟩,⟨f0,f1⟩,Z,hZ,hZ2,hZ3⟩:=Znc (k2.at0 bx) (.int .i64 0) (.int .i64 0);have HF:Hid (Za w Z∧Fl1 Z q):=⟨Zc.trans (KW.trans' k2) hZ3.out.1 (λ i hi e=>by have e' : i=w.heap.size:=e;omega),Fl1.of (Zn.keptN hZ3.out.1 (λ c hc=>by rw [k2.at0 bx] at hc;cases hc) hf)⟩;clear hf k2 KW bx C;go_wp2;rw [hZ.out];exact bodyPost_ret (v:=.tuple #[.agg #[.int .i64 0,.int .i64 0],.bool false,.iface 114 (.pointer (some ⟨q,0,none⟩))]) (by simp [results,results34,go_sem,hZ2.out.1,hZ2.out.2]) rfl ⟨q,rfl,HF.out.2,HF.out.1⟩
theorem Zkv (hE:ErrT w):Calls prog 6 #[] w λ e w' => e=.returned (.bool true)∧Below w.heap.size w w' := by
 have CA:=Zk3 hE;have HE:Hid (∀ ww,Za w ww->ErrT ww):=λ ww hk=>hE.same hk;clear hE
 go_enter func6,ntmps6
 go_upto_region 2 with ((go_at_call 28;refine CA.mono ?_;rintro e w0 ⟨rfl,k0⟩))
 clear CA;obtain ⟨w1,hw1⟩:∃ w1,w1=w0.alloc (.cells #[.int .i64 0] 3):=⟨_,rfl⟩;have k1:Za w w1:=by rw [hw1];exact k0.trans' (Zal9)
 go_upto_region 3 with fail
 rw [<- hw1];have tb:Hid (w0.heap.size=w0.heap.size):=rfl;generalize w0.heap.size=tb0 at *;clear hw1 k0;have C1:=Zzr (HE.out w1 k1) (some ⟨tb0,0,none⟩) 1 1;clear HE
 go_upto_region 4 with ((go_at_call 29;refine C1.mono ?_;rintro e w2 ⟨qa,rfl,fa,k2⟩))
 have C2:=Zlo w2 (some ⟨tb0,0,none⟩) 1 1;clear C1
 go_upto_region 5 with ((go_at_call 30;refine C2.mono ?_;rintro e w3 ⟨qb,rfl,fb,k3⟩))
 have C3:=Zoc w3 (some ⟨tb0,0,none⟩) 1 1;clear C2
 go_upto_region 6 with ((go_at_call 31;refine C3.mono ?_;rintro e w4 ⟨qc,rfl,fc,k4⟩))
 have C4:=Zh8 w4 (some ⟨tb0,0,none⟩) 1 1;clear C3
 go_upto_region 7 with ((go_at_call 32;refine C4.mono ?_;rintro e w5 ⟨qd,rfl,fd,k5⟩))
 have C5:=Zqk w5 (some ⟨tb0,0,none⟩) 1 1;clear C4
 go_upto_region 8 with ((go_at_call 33;refine C5.mono ?_;rintro e w6o ⟨qe,rfl,feo,k6o⟩))
 obtain ⟨w6,hw6⟩:∃ w6,w6=w6o.alloc (.cells #[.int .i64 0,.int .i64 0] 85):=⟨_,rfl⟩;have kv6:Za w6o w6:=by rw [hw6];exact Zal9
 have fe:=feo.up kv6;have k6:=k6o.trans' kv6;rw [<- hw6];clear hw6 feo k6o kv6;have C6:=Zqj w6 (some ⟨tb0,0,none⟩) 1 1;clear C5
 go_upto_region 9 with ((go_at_call 34;refine C6.mono ?_;rintro e w7o ⟨qf,rfl,ffo,k7o⟩))
 clear C6;obtain ⟨w7,hw7⟩:∃ w7,w7=w7o.alloc (.cells #[.int .i64 0,.int .i64 0] 85):=⟨_,rfl⟩;have kv7:Za w7o w7:=by rw [hw7];exact Zal9
 have ff:=ffo.up kv7;have k7:=k7o.trans' kv7;rw [<- hw7];clear hw7 ffo k7o kv7;obtain ⟨w8,hw8⟩:∃ w8,w8=w7.alloc (.cells #[.int .i64 1,.int .i64 0] 72):=⟨_,rfl⟩;have k8:Za w7 w8:=by rw [hw8];exact Zal9
 have W8:Xh w8 (.slice (some ⟨w7.heap.size,0,none⟩) 1 1) [(1,0)]:=by
  rw [hw8];exact Ze7 w7 [(1,0)] #[.int .i64 1,.int .i64 0] 72 rfl (λ i hi=>by have hi' : i<1:=hi;match i,hi' with | 0,_=>exact ⟨rfl,rfl⟩) 1 rfl
 have HSM:Hid (∀ ww,Za w8 ww->∀ q,q=qa∨q=qb∨q=qc∨q=qd∨q=qe∨q=qf->Calls prog 35 #[.iface 114 (.pointer (some ⟨q,0,none⟩)),.slice (some ⟨w7.heap.size,0,none⟩) 1 1] ww λ e w' => e=.returned (.bool true)∧Za ww w'):=λ ww hk q hq=>by
  have K7:=k8.trans' hk;refine Ze3 ?_ (W8.same hk) (by simp)
  rcases hq with rfl | rfl | rfl | rfl | rfl | rfl
  ·exact fa.out ww (((((k3.trans' k4).trans' k5).trans' k6).trans' k7).trans' K7)
  ·exact fb.out ww ((((k4.trans' k5).trans' k6).trans' k7).trans' K7)
  ·exact fc.out ww (((k5.trans' k6).trans' k7).trans' K7)
  ·exact fd.out ww ((k6.trans' k7).trans' K7)
  ·exact fe.out ww (k7.trans' K7)
  ·exact ff.out ww K7
 have K8:Hid (Za w w8):=(((((((k1.trans' k2).trans' k3).trans' k4).trans' k5).trans' k6).trans' k7)).trans' k8
 go_upto_region 10 with fail
 rw [<- hw8];clear hw8 fa fb fc fd fe ff W8 k1 k2 k3 k4 k5 k6 k7 k8;have D1:=HSM.out w8 (Zc.refl _ _) qa (.inl rfl)
 go_upto_region 11 with ((go_at_call 35;refine D1.mono ?_;rintro e w9 ⟨rfl,k9⟩))
 have D2:=HSM.out w9 k9 qb (.inr (.inl rfl));clear D1
 go_upto_region 12 with ((go_at_call 35;refine D2.mono ?_;rintro e w10 ⟨rfl,k10'⟩))
 have k10:=k9.trans' k10';have D3:=HSM.out w10 k10 qc (.inr (.inr (.inl rfl)));clear D2 k9 k10'
 go_upto_region 13 with ((go_at_call 35;refine D3.mono ?_;rintro e w11 ⟨rfl,k11'⟩))
 have k11:=k10.trans' k11';have D4:=HSM.out w11 k11 qd (.inr (.inr (.inr (.inl rfl))));clear D3 k10 k11'
 go_upto_region 14 with ((go_at_call 35;refine D4.mono ?_;rintro e w12 ⟨rfl,k12'⟩))
 have k12:=k11.trans' k12';have D5:=HSM.out w12 k12 qe (.inr (.inr (.inr (.inr (.inl rfl)))));clear D4 k11 k12'
 go_upto_region 15 with ((go_at_call 35;refine D5.mono ?_;rintro e w13 ⟨rfl,k13'⟩))
 have k13:=k12.trans' k13';have D6:=HSM.out w13 k13 qf (.inr (.inr (.inr (.inr (.inr rfl)))));clear D5 k12 k13'
 go_wp2_with ((go_at_call 35;refine D6.mono ?_;rintro e w14 ⟨rfl,k14'⟩))
 go_ret;exact ⟨by first | rfl | simp,((K8.out.trans' k13).trans' k14').below⟩
end
end Go.Proofs.YtmjgnfkbnofjoaaGreatDoor
