import Derived.WalkKit
import Derived.Test.YtmjgnfkbnofjoaaGreatDoorRN10
namespace Go.Proofs.YtmjgnfkbnofjoaaGreatDoor
open Go.Proofs.Tryz
set_option maxRecDepth 100000
set_option linter.unusedVariables false
set_option maxHeartbeats 16000000
variable {z:Int} {ld:Int->Int} {J:List Int} {R l:List Ru} {L:List Sym} {ac b bc bs i k m n p ps q s:Nat} {res:Option (Int->Int)} {x:Ru} {lv:Value} {w:World}
section
open Go.RowKit
attribute [local go_sem ↓] Go.wp_at_zero Go.wp_at_succ
def X7 (R:List Ru) (l:List Int):List Rw:=l.map (λ i=>(i,(R.getD i.toNat ([],[])).1,[0]))
theorem Ztv {s:Int} {i:Int}:∀ {R:List Ru} {k:Nat},i∈ofF s k R->∃ j,∃ h:j<R.length,i=((k+j:Nat):Int)∧R[j].1.head? = some s
 | [],k,h=>by simp [ofF] at h
 | x :: r,k,h=>by
  rw [ofF] at h
  rcases List.mem_append.1 h with q | q
  ·split at q
   ·simp at q
    exact ⟨0,by simp,by simpa using q,by assumption⟩
   ·simp at q
  ·obtain ⟨j,hj,e1,e2⟩:=Ztv q
   exact ⟨j+1,by simp;omega,by rw [e1];congr 1;omega,by simpa using e2⟩
def Xl (L:List Sym) (s:Nat):List (List Int):=Y4 L [[]] 0 s
def Yi (L:List Sym) (R:List Ru) (s:Nat):List Rw:=(X7 R (ofF (s:Int) 0 R)).map (Je L 0)
theorem Zbl (hok:∀ x∈R,Zd L x.1=0∧Zd L x.2=0) {s:Nat} {x:Rw} (hx:x∈X7 R (ofF (s:Int) 0 R)):∃ j,∃ h:j<R.length,x=((j:Int),R[j].1,[0])∧Zd L R[j].1=0∧0<R[j].1.length∧Vr x 0=(s:Int):=by
 obtain ⟨i,hi,rfl⟩:=List.mem_map.1 hx;obtain ⟨j,hj,e1,e2⟩:=Ztv hi;have hz:=hok _ (List.getElem_mem hj);have hp:=(Yr hz).1.1;have e3:R.getD i.toNat ([],[])=R[j]:=by rw [e1];simp [List.getD,hj]
 refine ⟨j,hj,by rw [e3,e1];simp,hz.1,hp,?_⟩;rw [e3];unfold Vr;show R[j].1.getD 0 (-1)=_;rw [Xi hp];exact (Zk4 hp _).1 e2
theorem Ztu (ha:Ars L) (hle:R.length<=100) (hok:∀ x∈R,Zd L x.1=0∧Zd L x.2=0) (hs:s<L.length):Ztq L 2001 (Xl L s) (Yi L R s):=by
 have hP:(Xl L s).length=arN L (s:Int):=by simp [Xl,Y4,Zh4]
 have h6:=Vm ha (s:Int);refine ⟨by omega,?_,by omega,?_,?_⟩
 ·simp only [Yi,X7,List.length_map]
  exact Nat.le_trans (Zds _ _ _) hle
 ·intro p hp
  simp only [Xl,Y4,Zh4,List.take_zero,List.nil_append,List.drop_succ_cons,List.drop_nil,List.append_nil] at hp;obtain ⟨i,_,rfl⟩:=List.mem_map.1 hp;simp
 ·intro y hy
  obtain ⟨x,hx,rfl⟩:=List.mem_map.1 hy;obtain ⟨j,hj,rfl,h0,hp,hn⟩:=Zbl hok hx;have hT:=Ze.1 h0;obtain ⟨a1,a2⟩:=Zgx hT.2.2 hp;have e1:(Je L 0 ((j:Int),R[j].1,[0])).2.2=Z8 L R[j].1 0:=by simp [Je,Zh4]
  have e2:Vr ((j:Int),R[j].1,[0]) 0=R[j].1[0]:=Zci (x:=((j:Int),R[j].1,[0])) (c:=0) (by simp) hp;rw [e2] at hn;refine ⟨h0,?_,?_,?_⟩
  ·rw [e1,Z9 hp,Zk,hn,hP]
  ·rw [e1];exact a2
  ·rw [e1]
   have:=Ze6 hT.2.2;show wtL L R[j].1 (Z8 L R[j].1 0)<2001;omega
theorem Zor {bt:Nat} {vs:List Value} (hg:Sg w.heap.size w bt L) (h:X6 w b bs L R lv vs) (hs:s<L.length) :
  Calls prog 91 #[.pointer (some ⟨bt,0,none⟩),.pointer (some ⟨b,0,none⟩),.int .i64 (s:Int)] w λ e w' => ∃ po pc ro rc,e=.returned (.agg #[.pointer (some ⟨bt,0,none⟩),.slice po (Xl L s).length pc,.slice ro (Yi L R s).length rc])∧Zho w' L 2001 bt po pc (Xl L s) ro (Yi L R s)∧Za w w' := by
 have hle:=h.le;have hok:=h.ok;have hol:=Zds (s:Int) R 0;obtain ⟨W3,hW3⟩:∃ W3,W3=((w.alloc Zbj).alloc (.cells #[] 3)).alloc (.cells #[.slice (some ⟨w.heap.size+1,0,none⟩) 0 0] 51):=⟨_,rfl⟩;have KW:Za w W3:=by rw [hW3];exact (((Zc.refl _ w).alloc _).alloc _).alloc _
 have ez:W3.heap.size=w.heap.size+1+1+1:=by rw [hW3];simp
 have RS:Hid (∀ ww,Za W3 ww->ww.heap[w.heap.size]? = some (.cells #[.pointer none,.slice none 0 0,.slice none 0 0] 181 (0,0))):=λ ww hk=>hk.at0 (by
  have k2:Za (w.alloc Zbj) W3:=by rw [hW3];exact (Zal9).alloc _
  exact k2.at0 (heap_alloc_new w _))
 have PS:Hid (∀ ww,Za W3 ww->Zbz ww (some ⟨w.heap.size+1+1,0,none⟩) [[]]):=λ ww hk=>Zbz.same (by
  have h1:W3.heap[w.heap.size+1+1]? = some (.cells #[.slice (some ⟨w.heap.size+1,0,none⟩) 0 0] 51 (0,0)):=by
   have:=Zo (w.alloc Zbj) (.cells #[] 3) (.cells #[.slice (some ⟨w.heap.size+1,0,none⟩) 0 0] 51);rw [World.size_alloc] at this;rw [hW3];exact this
  have h2:W3.heap[w.heap.size+1]? = some (.cells #[] 3 (0,0)):=by
   have k2:Za ((w.alloc Zbj).alloc (.cells #[] 3)) W3:=by rw [hW3];exact Zal9
   exact k2.at0 (Zo _ _ _)
  refine .inr ⟨_,0,rfl,⟨_,h1⟩,λ i hi=>?_⟩;obtain rfl:i=0:=by simp at hi;omega
  exact ⟨some ⟨w.heap.size+1,0,none⟩,0,Zb h1 0,⟨.inl rfl,Nat.le_refl _,(λ e=>by cases e),by simp⟩,λ a e=>(by cases e;exact ⟨_,h2⟩),λ a e=>(by cases e;exact ⟨_,_,rfl,h2,rfl,by unfold maxLen;omega⟩)⟩) hk
 have HST:Hid (∀ ww,Za w ww->X6 ww b bs L R lv vs):=λ ww hk=>h.same hk;have HSG:Hid (∀ ww,Za w ww->Sg ww.heap.size ww bt L):=λ ww hk=>Zbs (hg.same hk) hk.size;have NB:Hid (Ztq L 2001 (Xl L s) (Yi L R s)):=Ztu hg.2 hle hok hs
 have HOF:Hid (∀ ww,Za W3 ww->Calls prog 129 #[.pointer (some ⟨b,0,none⟩),.int .i64 (s:Int)] ww λ e w' => ∃ oo oc,e=.returned (.slice oo (ofF (s:Int) 0 R).length oc)∧Hid (Js w' oo (ofF (s:Int) 0 R) oc)∧Za ww w'):=λ ww hk=>(Zxl (HST.out ww (KW.trans' hk)) (s:Int)).mono (λ e w' ⟨v,e1,e2,e3⟩=>by
  obtain ⟨oo,oc,rfl,i1,_⟩:=e2.arg (by omega)
  exact ⟨oo,oc,e1,i1,e3⟩)
 have HFA:Hid (∀ x∈X7 R (ofF (s:Int) 0 R),∃ j,∃ h:j<R.length,x=((j:Int),R[j].1,[0])∧Zd L R[j].1=0∧0<R[j].1.length∧Vr x 0=(s:Int)):=λ x hx=>Zbl hok hx;clear h hg;have K4:Za W3 (W3.alloc (.cells #[.pointer (some ⟨bt,0,none⟩),.slice (some ⟨w.heap.size+1+1,0,none⟩) 1 1,.slice none 0 0] 181)):=Zal9;have C1:=HOF.out _ K4;generalize hof:ofF (s:Int) 0 R=O at *
 go_enter func91,ntmps91
 go_upto_region 2 with fail
 rw [<- hW3];have N0:Hid ((W3.alloc (.cells #[.pointer (some ⟨bt,0,none⟩),.slice (some ⟨w.heap.size+1+1,0,none⟩) 1 1,.slice none 0 0] 181)).heap[W3.heap.size]? = some (.cells #[.pointer (some ⟨bt,0,none⟩),.slice (some ⟨w.heap.size+1+1,0,none⟩) 1 1,.slice none 0 0] 181 (0,0))):=heap_alloc_new W3 _;obtain ⟨kb,hkb⟩:∃ kb,kb=W3.heap.size:=⟨_,rfl⟩;have HKB:Hid (kb=W3.heap.size):=hkb;have ez3:w.heap.size+1+1+1=kb:=by rw [hkb,ez]
 rw [ez3];rw [<- hkb] at N0;have hzk:(W3.alloc (.cells #[.pointer (some ⟨bt,0,none⟩),.slice (some ⟨w.heap.size+1+1,0,none⟩) 1 1,.slice none 0 0] 181)).heap.size=kb+1:=by rw [hkb];simp
 have HZK:Hid (kb+1=(W3.alloc (.cells #[.pointer (some ⟨bt,0,none⟩),.slice (some ⟨w.heap.size+1+1,0,none⟩) 1 1,.slice none 0 0] 181)).heap.size):=hzk.symm;clear hW3 hkb ez hzk
 go_upto_region 3 with ((go_at_call 129;refine C1.mono ?_;rintro e w5 ⟨oo,oc,rfl,hoi,k5⟩))
 have HOE:Hid (ofF (s:Int) 0 R=O):=hof;have K5:Za W3 w5:=K4.trans' k5;have N5:Hid (w5.heap[kb]? = some (.cells #[.pointer (some ⟨bt,0,none⟩),.slice (some ⟨w.heap.size+1+1,0,none⟩) 1 1,.slice none 0 0] 181 (0,0))):=k5.at0 N0.out;have hkb5:kb+1<=w5.heap.size:=by rw [HZK.out];exact k5.size
 have HOI:Hid (∀ ww,Za w5 ww->Js ww oo O oc):=λ ww hk=>hoi.out.same hk;clear hof N0 C1 HOF hoi K4 k5 hok
 go_loopw [20] (λ i wr=>∃ (j:Nat) (lv:Value) (us:List Value),j<=O.length∧i=.int .i64 (j:Int)∧Hid (wr.heap[kb]? = some (.cells #[.pointer (some ⟨bt,0,none⟩),.slice (some ⟨w.heap.size+1+1,0,none⟩) 1 1,lv] 181 (0,0)))∧Hid (wr.ownsRow (kb+1) 246 3 lv j us)∧Hid (Yx wr us (X7 R (O.take j)))∧Za W3 wr∧Hid (Js wr oo O oc)) (λ i _=>O.length-(intOf i).toNat)
 case atStart=>exact ⟨0,.slice none 0 0,[],Nat.zero_le _,rfl,N5,World.ownsRow_nil _ _ _ _,by simpa [Hid,X7] using Yx.nil _,K5,HOI.out _ (Zc.refl _ _)⟩
 case round=>
  clear K5 N5 hkb5 HOI;obtain ⟨j,lv,us,hj,rfl,hN,hr,hus,hw,hoi⟩:=hrel;obtain ⟨lo,lc,rfl⟩:=Zf hr.out
  by_cases hlt:j<O.length
  ·obtain ⟨ob,ooff,rfl,hob,hoc⟩:=hoi.out.1.at'.get hlt
   have hmem:(O[j],(R.getD O[j].toNat ([],[])).1,[0])∈X7 R O:=List.mem_map.2 ⟨O[j],List.getElem_mem hlt,rfl⟩;obtain ⟨q,hq,hqe,hq0,hqp,hqn⟩:=HFA.out _ hmem;have hOq:O[j]=(q:Int):=congrArg Prod.fst hqe;have hkr:kb<wr.heap.size:=Zi hN.out;have hT:=Ze.1 hq0;have CA:=Zx2 (HST.out wr (KW.trans' hw)) q hq
   have CK:Hid (∀ ww g c', Za wr ww->Yu ww g c' R[q].1->Calls prog 104 #[.pointer (some ⟨bt,0,none⟩),.slice (some ⟨g,0,none⟩) R[q].1.length c'] ww λ e w' => e=.returned (.int .i64 0)∧Za ww w'):=λ ww g c' hk ht=>by
    have:=Xn (cap:=c') (HSG.out ww ((KW.trans' hw).trans' hk)) (Yu.arg ht hT.1).at' (by unfold maxLen;omega);rw [hq0] at this;exact this
   have i1:(0:Int)<=(j:Int):=by omega
   have i2:(j:Int)<(O.length:Int):=by omega
   rw [hOq] at hoc;have CAH:Hid (Calls prog 130 #[.pointer (some ⟨b,0,none⟩),.int .i64 (q:Int)] wr λ e w' => ∃ g c g' c', e=.returned (.tuple #[.agg #[.slice (some ⟨g,0,none⟩) R[q].1.length c,.slice (some ⟨g', 0,none⟩) R[q].2.length c'],.int .i64 0])∧Hid (Yu w' g c R[q].1)∧Za wr w'):=CA.mono (λ e w' ⟨v,e1,⟨g,c,g', c', e2,t1,t2,_⟩,k⟩=>⟨g,c,g', c', by rw [e1,e2],t1,k⟩);have CA2:=CAH.out;have hBX:Hid (∀ ww,Za wr ww->ww.cell? ⟨kb,2,none⟩=some (.slice lo j lc)):=λ ww hk=>Zb (hk.at0 hN.out) 2;have HRW:Hid (∀ ww,Za wr ww->ww.ownsRow (kb+1) 246 3 (.slice lo j lc) j us):=λ ww hk=>hk.row hr.out (λ _ _ f=>f);have hzz:Hid (∀ ww,Za wr ww->kb+1<=ww.heap.size):=λ ww hk=>by have:=hk.size;omega
   have hj1000:j<=1000:=by omega
   have FIN:Hid (∀ w7 g c q0 gg cap w11,Za wr w7->Yu w7 g c R[q].1->Js w7 (some ⟨q0,0,none⟩) (ofN [0]) 1->w11.ownsRow (kb+1) 246 3 (.slice (some ⟨gg,0,none⟩) (j+1) cap) (j+1) (us ++ [.int .i64 (q:Int),.slice (some ⟨g,0,none⟩) R[q].1.length c,.slice (some ⟨q0,0,none⟩) 1 1])->Zc (λ k=>(Value.slice lo j lc).ownBlock=some k) w7 w11->(w11.cell? ⟨kb,2,none⟩=some (.slice lo j lc)∧w11.frozen? ⟨kb,2,none⟩=false)∧Hid (∃ us', Hid ((w11.setCell ⟨kb,2,none⟩ (.slice (some ⟨gg,0,none⟩) (j+1) cap)).heap[kb]? = some (.cells #[.pointer (some ⟨bt,0,none⟩),.slice (some ⟨w.heap.size+1+1,0,none⟩) 1 1,.slice (some ⟨gg,0,none⟩) (j+1) cap] 181 (0,0)))∧Hid ((w11.setCell ⟨kb,2,none⟩ (.slice (some ⟨gg,0,none⟩) (j+1) cap)).ownsRow (kb+1) 246 3 (.slice (some ⟨gg,0,none⟩) (j+1) cap) (j+1) us')∧Hid (Yx (w11.setCell ⟨kb,2,none⟩ (.slice (some ⟨gg,0,none⟩) (j+1) cap)) us' (X7 R (O.take (j+1))))∧Za W3 (w11.setCell ⟨kb,2,none⟩ (.slice (some ⟨gg,0,none⟩) (j+1) cap))∧Hid (Js (w11.setCell ⟨kb,2,none⟩ (.slice (some ⟨gg,0,none⟩) (j+1) cap)) (some ⟨ob,ooff,none⟩) O oc))):=by
    intro w7 g c q0 gg cap w11 k7 t7 a0 r11 k11;have hr7:=k7.row hr.out (λ _ _ f=>f);have n7:=k7.at0 hN.out
    have nk:¬ (Value.slice lo j lc).ownBlock=some kb:=λ e=>by
     obtain ⟨cu,h5⟩:=Yb hr7 e;rw [n7] at h5;cases h5
    have n11:=k11.at n7 nk;have ks:Zc (λ k=>k=kb) w11 (w11.setCell ⟨kb,2,none⟩ (.slice (some ⟨gg,0,none⟩) (j+1) cap)):=Zc.setCell (p:=⟨kb,2,none⟩) (Zc.refl (λ k=>k=kb) w11) (λ _=>rfl) _;obtain ⟨xo,xc,e1,a1,_⟩:=Row.arg t7 (by omega);simp only [Value.slice.injEq] at e1;obtain ⟨rfl,_,rfl⟩:=e1;refine ⟨⟨Zb n11 2,Zg n11 2⟩,us ++ [.int .i64 (q:Int),.slice (some ⟨g,0,none⟩) R[q].1.length c,.slice (some ⟨q0,0,none⟩) 1 1],Zt n11 2 _,?_,?_,?_,?_⟩
    ·exact ks.row r11 (λ k e f=>by
      obtain ⟨cu,h5⟩:=Yb r11 e;subst f
      rw [n11] at h5;cases h5)
    ·show Yx _ _ _
     have e5:X7 R (O.take (j+1))=X7 R (O.take j) ++ [((q:Int),R[q].1,[0])]:=by
      rw [List.take_add_one,List.getElem?_eq_getElem hlt];unfold X7;rw [List.map_append];congr 1;rw [<- hqe];rfl
     rw [e5];have:=(hus.out.same k7).snoc (x:=((q:Int),R[q].1,[0])) a1 a0;exact (this.kept k11 (Zmm hr7)).kept ks (λ k e cur h5=>by subst e;rw [n11] at h5;cases h5)
    ·refine Zc.trans (Zc.trans (hw.trans' k7) k11 (λ i hi e=>?_)) ks (λ i hi e=>by have:=HKB.out;omega)
     have:=(hr7.lt i e).1;have:=HKB.out;omega
    ·exact (((hoi.out.same k7).kept k11 (Zmm hr7)).kept ks (λ k e cur h5=>by subst e;rw [n11] at h5;cases h5))
   have TA:Hid (∀ w8:World,Js (w8.alloc (.cells #[.int .i64 0] 3)) (some ⟨w8.heap.size,0,none⟩) (ofN [0]) 1):=λ w8=>⟨Xq w8 [0] 3 (by simp) rfl,λ a e=>(by cases e;exact ⟨_,heap_alloc_new w8 _⟩),λ a e=>(by cases e;exact ⟨_,_,rfl,heap_alloc_new w8 _,rfl,by unfold maxLen;omega⟩)⟩;have XB:Hid (∀ w6 w8:World,∀ x y:Value,Za (w6.alloc (.cells #[x,y] 90)) w8->w8.cell? ⟨w6.heap.size,0,none⟩=some x):=λ w6 w8 x y hk=>Zb (hk.at0 (heap_alloc_new w6 _)) 0;clear CA CAH hN hr hus hoi hmem HFA hqe hq0 hqp hqn hOq hT hkr hw NB HOE PS RS HSG HST
   go_wp2_with (first
    | (go_at_call 130;refine CA2.mono ?_;rintro e w6 ⟨g,c', g', c'', rfl,ht,k6⟩;have ka:Za wr (w6.alloc (.cells #[.slice (some ⟨g,0,none⟩) R[q].1.length c', .slice (some ⟨g', 0,none⟩) R[q].2.length c''] 90)):=Zc.alloc k6 _;have kx:Za w6 (w6.alloc (.cells #[.slice (some ⟨g,0,none⟩) R[q].1.length c', .slice (some ⟨g', 0,none⟩) R[q].2.length c''] 90)):=Zal9;have CK2:=CK.out _ g c' ka (ht.out.same kx))
    | (go_at_call 104;refine CK2.mono ?_;rintro e w8 ⟨rfl,k8⟩;have k18:=ka.trans' k8;have x0:=XB.out _ _ _ _ k8;have y0:=hBX.out _ k18;have t8:=(ht.out.same kx).same k8;have k7:Za wr (w8.alloc (.cells #[.int .i64 0] 3)):=Zc.alloc k18 _;have hz7:=hzz.out _ k7)
    | (at_builtin;refine Zi2 (w0:=w8.alloc (.cells #[.int .i64 0] 3)) rfl _ _ rfl (kb+1) j us (.slice lo j lc) rfl (Zal9) (HRW.out _ k7) (.int .i64 (q:Int)) (.slice (some ⟨g,0,none⟩) R[q].1.length c') (.slice (some ⟨w8.heap.size,0,none⟩) 1 1) (w8.heap.size+1) rfl (Zo _ _ _) rfl rfl rfl hz7 hj1000 ?_;intro gg cap w11 r11 k11;obtain ⟨⟨y1,y2⟩,FF⟩:=FIN.out _ g c' w8.heap.size gg cap w11 k7 (t8.same (Zal9)) (TA.out w8) r11 k11))
   obtain ⟨us', z1,z2,z3,z4,z5⟩:=FF.out;exact ⟨⟨j+1,_,us', by omega,by go_num,z1,z2,z3,z4,z5⟩,by simp [intOf];omega⟩
  ·obtain rfl:j=O.length:=by omega
   have hN' := hN.out;have rs:=RS.out wr hw;have n0:=Zb hN' 0;have n1:=Zb hN' 1;have n2:=Zb hN' 2;simp only [List.getElem?_toArray,List.getElem?_cons_zero,List.getElem?_cons_succ] at n0 n1 n2;have hus' := hus.out;rw [List.take_length] at hus';obtain ⟨ro,rc,e1,r1,r2, -⟩:=Zg6 hr.out hus';have hol2:(X7 R O).length=O.length:=by simp [X7]
   rw [hol2] at e1
   have KI:Zj9 wr L bt (some ⟨w.heap.size+1+1,0,none⟩) 1 [[]] 0 s ro (X7 R O):=⟨HSG.out wr (KW.trans' hw),PS.out wr hw,(λ e=>by cases e),Nat.le_refl _,by simp,hs,r1,by omega,by simp,by simp,λ x hx=>by
    obtain ⟨q,hq,rfl,h0,hp,hn⟩:=HFA.out x hx
    exact ⟨h0,rfl,λ p hp' => by simp at hp'; subst hp'; exact hp,hn⟩⟩
   have CKD:=Zr0 KI (no:=ro) (nl:=O.length) (nc:=rc) (hcap:=rc);simp only [Value.slice.injEq] at e1;obtain ⟨rfl, -,rfl⟩:=e1;rw [hol2] at CKD
   have RC:Hid (∀ ww,Za W3 ww->(ww.cell? ⟨w.heap.size,0,none⟩=some (.pointer none)∧ww.cell? ⟨w.heap.size,1,none⟩=some (.slice none 0 0)∧ww.cell? ⟨w.heap.size,2,none⟩=some (.slice none 0 0))∧ww.frozen? ⟨w.heap.size,0,none⟩=false∧ww.frozen? ⟨w.heap.size,1,none⟩=false∧ww.frozen? ⟨w.heap.size,2,none⟩=false):=λ ww hk=>by
    have rs:=RS.out ww hk;exact ⟨⟨Zb rs 0,Zb rs 1,Zb rs 2⟩,Zg rs 0,Zg rs 1,Zg rs 2⟩
   have FIN:Hid (∀ w9 po pc xo xc,Za wr w9->Zbz w9 po (Y4 L [[]] 0 s)->(po=none->pc=0)->(Y4 L [[]] 0 s).length<=pc->Ze8 w9 xo ((X7 R O).map (Je L 0))->((((w9.setCell ⟨w.heap.size,0,none⟩ (.pointer (some ⟨bt,0,none⟩))).setCell ⟨w.heap.size,1,none⟩ (.slice po (Y4 L [[]] 0 s).length pc)).setCell ⟨w.heap.size,2,none⟩ (.slice xo O.length xc)).cell? ⟨w.heap.size,0,none⟩=some (.pointer (some ⟨bt,0,none⟩))∧(((w9.setCell ⟨w.heap.size,0,none⟩ (.pointer (some ⟨bt,0,none⟩))).setCell ⟨w.heap.size,1,none⟩ (.slice po (Y4 L [[]] 0 s).length pc)).setCell ⟨w.heap.size,2,none⟩ (.slice xo O.length xc)).cell? ⟨w.heap.size,1,none⟩=some (.slice po (Y4 L [[]] 0 s).length pc)∧(((w9.setCell ⟨w.heap.size,0,none⟩ (.pointer (some ⟨bt,0,none⟩))).setCell ⟨w.heap.size,1,none⟩ (.slice po (Y4 L [[]] 0 s).length pc)).setCell ⟨w.heap.size,2,none⟩ (.slice xo O.length xc)).cell? ⟨w.heap.size,2,none⟩=some (.slice xo O.length xc))∧∃ po' pc' ro' rc', Ending.returned (Value.agg #[.pointer (some ⟨bt,0,none⟩),.slice po (Y4 L [[]] 0 s).length pc,.slice xo O.length xc])=.returned (.agg #[.pointer (some ⟨bt,0,none⟩),.slice po' (Xl L s).length pc', .slice ro' (Yi L R s).length rc'])∧Zho (((w9.setCell ⟨w.heap.size,0,none⟩ (.pointer (some ⟨bt,0,none⟩))).setCell ⟨w.heap.size,1,none⟩ (.slice po (Y4 L [[]] 0 s).length pc)).setCell ⟨w.heap.size,2,none⟩ (.slice xo O.length xc)) L 2001 bt po' pc' (Xl L s) ro' (Yi L R s)∧Za w (((w9.setCell ⟨w.heap.size,0,none⟩ (.pointer (some ⟨bt,0,none⟩))).setCell ⟨w.heap.size,1,none⟩ (.slice po (Y4 L [[]] 0 s).length pc)).setCell ⟨w.heap.size,2,none⟩ (.slice xo O.length xc))):=by
    intro w9 po pc xo xc k9 p1 p2 p3 p4;have rs9:=RS.out w9 (hw.trans' k9);have s3:=Zt (Zt (Zt rs9 0 (.pointer (some ⟨bt,0,none⟩))) 1 (.slice po (Y4 L [[]] 0 s).length pc)) 2 (.slice xo O.length xc);have k1:=Zc.setCell (p:=⟨w.heap.size,0,none⟩) (Zc.refl (λ q=>q=w.heap.size) w9) (λ _=>rfl) (.pointer (some ⟨bt,0,none⟩));have k2:=Zc.setCell (p:=⟨w.heap.size,1,none⟩) k1 (λ _=>rfl) (.slice po (Y4 L [[]] 0 s).length pc);have kk:=Zc.setCell (p:=⟨w.heap.size,2,none⟩) k2 (λ _=>rfl) (.slice xo O.length xc);have kS:=Zc.trans ((KW.trans' hw).trans' k9) kk (λ i hi e=>by omega);have nb:∀ q,q=w.heap.size->NdB w9 q:=λ q e=>by subst e;exact ⟨_,rs9⟩
    refine ⟨⟨Zb s3 0,Zb s3 1,Zb s3 2⟩,po,pc,xo,xc,?_,⟨HSG.out _ kS,p1.keptN kk nb,p2,p3,?_,NB.out⟩,kS⟩
    ·have:(Yi L R s).length=O.length:=by unfold Yi;rw [HOE.out,List.length_map,hol2]
     rw [this];rfl
    ·have:Yi L R s=(X7 R O).map (Je L 0):=by unfold Yi;rw [HOE.out]
     rw [this];exact p4.keptN kk nb
   have CKH:Hid (Calls prog 131 #[.agg #[.pointer (some ⟨bt,0,none⟩),.slice (some ⟨w.heap.size+1+1,0,none⟩) 1 1,.slice lo O.length lc],.int .i64 0,.int .i64 (s:Int),.slice lo O.length lc] wr λ e w' => ∃ po pc xo xc,e=.returned (.agg #[.pointer (some ⟨bt,0,none⟩),.slice po (Y4 L [[]] 0 s).length pc,.slice xo O.length xc])∧Hid (Zbz w' po (Y4 L [[]] 0 s)∧(po=none->pc=0)∧(Y4 L [[]] 0 s).length<=pc∧Ze8 w' xo ((X7 R O).map (Je L 0)))∧Za wr w'):=CKD.mono (λ e w' ⟨po,pc,xo,xc,q1,q2,q3,q4,q5,q6,q7⟩=>⟨po,pc,xo,xc,by rw [q1,hol2],⟨q2,q3,q4,q5⟩,q7⟩);have CK3:=CKH.out;clear hN hr hus hN' rs hus' r1 r2 KI CKD CKH hol2 hoi HFA NB HOE PS RS HSG HST
   go_wp2_with ((go_at_call 131;refine CK3.mono ?_;rintro e w9 ⟨po,pc,xo,xc,rfl,hq,k9⟩;obtain ⟨⟨q0,q1,q2⟩,f0,f1,f2⟩:=RC.out w9 (hw.trans' k9)))
   obtain ⟨p1,p2,p3,p4⟩:=hq.out;obtain ⟨⟨g0,g1,g2⟩,FF⟩:=FIN.out w9 po pc xo xc k9 p1 p2 p3 p4;exact bodyPost_ret (v:=.agg #[.pointer (some ⟨bt,0,none⟩),.slice po (Y4 L [[]] 0 s).length pc,.slice xo O.length xc]) (by simp [results,results91,go_sem,g0,g1,g2]) rfl FF
theorem Zms (h:Sg n w b L) (x:Int) :
  Calls prog 88 #[.pointer (some ⟨b,0,none⟩),.int .i64 x] w λ e w' => e=.returned (.bool (Xe L x))∧Za w w' := by
 by_cases hx:x<0∨(L.length:Int)<=x
 ·have H1:Hid (Xe L x=false):=Zd4 hx
  have c:=Zn2 h hx;clear h
  go_enter func88,ntmps88
  go_wp2_with ((go_at_call 128;refine c.mono ?_;rintro e w' ⟨rfl,hk⟩))
  go_ret;exact ⟨by rw [H1.out];rfl,Zc.alloc hk _⟩
 ·obtain ⟨i,rfl⟩:∃ i:Nat,x=(i:Int):=⟨x.toNat,by omega⟩
  have hi:i<L.length:=by omega
  have H1:Hid (Xe L (i:Int)=L[i].df):=Zg1 hi;have c:=Zdy h hi;clear h
  go_enter func88,ntmps88
  go_wp2_with ((go_at_call 128;refine c.mono ?_;rintro e w' ⟨rfl,hk⟩))
  go_ret;exact ⟨by rw [H1.out];rfl,Zc.alloc hk _⟩
theorem Zox (v:Value) (w:World):(Instr.typeAssert (.iface 114 v) 20 114 true).run prog w=.ok (.tuple #[v,.bool true]) w:=by kernel_rfl
theorem Zpu (k:Nat) (w:World):Calls prog 90 #[.iface 114 (.pointer (some ⟨k,0,none⟩))] w λ e w' => e=.returned (.iface 114 (.pointer (some ⟨k,0,none⟩)))∧w' = w:=by
 have hta:=Zox (.pointer (some ⟨k,0,none⟩)) w
 go_enter func90,ntmps90
 go_wp2_with fail
 go_ret;exact ⟨rfl,rfl⟩
theorem any_ne (v:Value) (w:World):(binOp .neq 20 (.iface 114 v) .nilIface).run prog w=.ok (.bool true) w:=by kernel_rfl
theorem Zzo (w:World):(binOp .neq 20 .nilIface .nilIface).run prog w=.ok (.bool false) w:=by kernel_rfl
theorem Zoi {pe:Nat} {s:Int} (k:Nat) (w:World) (hs:w.cell? ⟨ps,0,none⟩=some (.int .i64 s)) {x:Value} (he:w.heap[pe]? = some (.cells #[x] 46 (0,0))) (hpe:¬ ps=pe) :
  CallsD prog 89 #[.pointer (some ⟨ps,0,none⟩),.pointer (some ⟨pe,0,none⟩)] (.panicking [{ v:=.iface 114 (.pointer (some ⟨k,0,none⟩)),recovered:=false }]) w λ e u' w' =>
   e=.returned (.tuple #[])∧u' = .panicking [{ v:=.iface 114 (.pointer (some ⟨k,0,none⟩)),recovered:=true }]∧∃ q,w'.heap[q]? = some (.cells #[.int .i64 81,.int .i64 s,.iface 114 (.pointer (some ⟨k,0,none⟩))] 116 (0,0))∧w'.heap[pe]? = some (.cells #[.iface 114 (.pointer (some ⟨q,0,none⟩))] 46 (0,0))∧Zc (λ i=>i=pe) w w' := by
 have hne:=any_ne;have hfk:=Zpu;have c0:=Zb he 0;have f0:=Zg he 0;simp only [List.getElem?_toArray,List.getElem?_cons_zero] at c0;refine callsD_of_wpS func89 rfl λ c₀ cs hu=>?_;apply wpS_seq;apply wpS_region;simp [wpOpsS,go_sem,recoverD,hu,ntmps89,Exit.thenS];apply wpS_of_wp;have d0:w.drew.cell? ⟨ps,0,none⟩=some (.int .i64 s):=hs;have fa:∀ o,(w.drew.alloc o).cell? ⟨pe,0,none⟩=some x:=λ o=>Vc (w:=w.drew) c0 o;have fz:∀ o,(w.drew.alloc o).frozen? ⟨pe,0,none⟩=false:=λ o=>Zg (Za.at0 (Zc.alloc (Zc.drew (Zc.refl (λ _=>False) w)) o) he) 0
 have FIN:Hid (∃ q,((w.drew.alloc (.cells #[.int .i64 81,.int .i64 s,.iface 114 (.pointer (some ⟨k,0,none⟩))] 116)).setCell ⟨pe,0,none⟩ (.iface 114 (.pointer (some ⟨w.heap.size,0,none⟩)))).heap[q]? = some (.cells #[.int .i64 81,.int .i64 s,.iface 114 (.pointer (some ⟨k,0,none⟩))] 116 (0,0))∧((w.drew.alloc (.cells #[.int .i64 81,.int .i64 s,.iface 114 (.pointer (some ⟨k,0,none⟩))] 116)).setCell ⟨pe,0,none⟩ (.iface 114 (.pointer (some ⟨w.heap.size,0,none⟩)))).heap[pe]? = some (.cells #[.iface 114 (.pointer (some ⟨q,0,none⟩))] 46 (0,0))∧Zc (λ i=>i=pe) w ((w.drew.alloc (.cells #[.int .i64 81,.int .i64 s,.iface 114 (.pointer (some ⟨k,0,none⟩))] 116)).setCell ⟨pe,0,none⟩ (.iface 114 (.pointer (some ⟨w.heap.size,0,none⟩))))):=by
  have ka:Za w (w.drew.alloc (.cells #[.int .i64 81,.int .i64 s,.iface 114 (.pointer (some ⟨k,0,none⟩))] 116)):=Zc.alloc (Zc.drew (Zc.refl _ w)) _;have ks:=Zc.setCell (p:=⟨pe,0,none⟩) (Zc.refl (λ i=>i=pe) (w.drew.alloc (.cells #[.int .i64 81,.int .i64 s,.iface 114 (.pointer (some ⟨k,0,none⟩))] 116))) (λ _=>rfl) (.iface 114 (.pointer (some ⟨w.heap.size,0,none⟩)));have hp:pe<w.heap.size:=Zi he;exact ⟨w.heap.size,ks.at (heap_alloc_new w.drew _) (λ e=>by omega),Zt (ka.at0 he) 0 _,Zc.trans ka.mono' ks (λ _ _ e=>e)⟩
 clear he
 go_wp2_with fail
 have fa1:=fa (.cells #[.int .i64 81,.int .i64 s,.iface 114 (.pointer (some ⟨k,0,none⟩))] 116);have fz1:=fz (.cells #[.int .i64 81,.int .i64 s,.iface 114 (.pointer (some ⟨k,0,none⟩))] 116);have fs1:(w.drew.alloc (.cells #[.int .i64 81,.int .i64 s,.iface 114 (.pointer (some ⟨k,0,none⟩))] 116)).cell? ⟨ps,0,none⟩=some (.int .i64 s):=Vc (w:=w.drew) hs _
 have fs2:((w.drew.alloc (.cells #[.int .i64 81,.int .i64 s,.iface 114 (.pointer (some ⟨k,0,none⟩))] 116)).setCell ⟨pe,0,none⟩ (.iface 114 (.pointer (some ⟨w.heap.size,0,none⟩)))).cell? ⟨ps,0,none⟩=some (.int .i64 s):=by
  have ks:=Zc.setCell (p:=⟨pe,0,none⟩) (Zc.refl (λ i=>i=pe) (w.drew.alloc (.cells #[.int .i64 81,.int .i64 s,.iface 114 (.pointer (some ⟨k,0,none⟩))] 116))) (λ _=>rfl) (.iface 114 (.pointer (some ⟨w.heap.size,0,none⟩)));exact (ks.cell (p:=⟨ps,0,none⟩) (World.block_lt_of_cell? _ _ fs1) hpe).trans fs1
 have fa2:(w.alloc (.cells #[.int .i64 81,.int .i64 s,.iface 114 (.pointer (some ⟨k,0,none⟩))] 116)).cell? ⟨pe,0,none⟩=some x:=fa1;have fz2:(w.alloc (.cells #[.int .i64 81,.int .i64 s,.iface 114 (.pointer (some ⟨k,0,none⟩))] 116)).frozen? ⟨pe,0,none⟩=false:=fz1;clear fa fz;refine wp_region_held_drew (S:=λ w' => w'.cell? ⟨ps,0,none⟩=some (.int .i64 s)) (by kernel_rfl) d0 (λ hHeld=>?_);refine wpAnyH_take (i:=0) (v:=.int .i64 s) rfl (by kernel_rfl) (by kernel_rfl) (by kernel_rfl) (λ _ _ _ h=>h) (.inl ⟨rfl,λ w' hS=>by simp [go_sem,hS]⟩) hHeld ?_;refine wpAnyH_take (i:=1) (v:=.iface 114 (.pointer (some ⟨k,0,none⟩))) rfl (by kernel_rfl) (by kernel_rfl) (by kernel_rfl) (λ _ _ _ h=>h) (.inl ⟨rfl,λ w' hS=>by simp [go_sem]⟩) hHeld ?_;refine wpAnyH_ready (rs:=[2]) (by kernel_rfl) (by simp) ?_;refine AllReadyH.cons rfl (λ K hK=>?_) AllReadyH.nil;refine Yn rfl (hfk k w.drew) (by simp [go_sem]) ?_;rintro e w2 ⟨rfl,rfl⟩;refine ⟨_,rfl,?_⟩;refine hK.out _ _ d0 (λ hHeld=>?_);clear hK K;refine wpAnyH_take (i:=3) (v:=.agg #[.int .i64 81,.int .i64 s,.iface 114 (.pointer (some ⟨k,0,none⟩))]) rfl (by kernel_rfl) (by kernel_rfl) (by kernel_rfl) (λ _ _ _ h=>h) (.inl ⟨rfl,λ w' hS=>by simp [go_sem]⟩) hHeld ?_;refine wpAnyH_ready (rs:=[4]) (by kernel_rfl) (by simp) ?_;refine AllReadyH.cons rfl (λ K hK=>?_) AllReadyH.nil
 go_simp
 refine hK.out _ _ fs1 (λ hHeld=>?_);clear hK K;refine wpAnyH_take (i:=5) (v:=.iface 114 (.pointer (some ⟨w.heap.size,0,none⟩))) rfl (by kernel_rfl) (by kernel_rfl) (by kernel_rfl) (λ _ _ _ h=>h) (.inl ⟨rfl,λ w' hS=>by simp [go_sem]⟩) hHeld ?_;refine wpAnyH_ready (rs:=[6]) (by kernel_rfl) (by simp) ?_;refine AllReadyH.cons rfl (λ K hK=>?_) AllReadyH.nil
 go_simp
 refine hK.out _ _ fs2 (λ hHeld=>?_);clear hK K;refine wpAnyH_done (by kernel_rfl) ?_ _
 go_wp2_with fail
 simp [go_sem,bodyPostS,results,results89];exact FIN.out
theorem Zpc {pe:Nat} (w:World) :
  CallsD prog 89 #[.pointer (some ⟨ps,0,none⟩),.pointer (some ⟨pe,0,none⟩)] .returning w λ e u' w' => e=.returned (.tuple #[])∧u' = .returning∧w' = w:=by
 have hne:=Zzo;refine callsD_of_wpS func89 rfl λ c₀ cs hu=>?_;apply wpS_seq;apply wpS_region;simp [wpOpsS,go_sem,recoverD,hu,ntmps89,Exit.thenS];apply wpS_of_wp
 go_wp2_with fail
 simp [go_sem,bodyPostS,results,results89];cases c₀;simp only at hu;subst hu;rfl
abbrev K9:Value:=.agg #[.int .i64 0,.int .i64 0,.slice none 0 0,.slice none 0 0]
def J4 (L:List Sym) (R:List Ru) (s:Nat):Except Int (Tr 2001):=Y5 L 2001 (Xl L s) (Yi L R s)
def Zg7 (L:List Sym) (R:List Ru) (n:Int) (w:World) (e:Ending) (w' : World):Prop:=
 Za w w' ∧ if Xe L n=true then
  (match J4 L R n.toNat with
  | .ok t=>∃ v,e=.returned (.tuple #[v,.nilIface])∧CsB (λ b=>w.heap.size<=b) w' 2001 v t
  | .error z=>∃ v,e=.returned (.tuple #[K9,v])∧Zn w' [(81,n),(82,z)] v)
 else ∃ v,e=.returned (.tuple #[K9,v])∧Zn w' [(80,0)] v
theorem Zze (b:Nat) (w:World):(binOp .eql 43 (.pointer (some ⟨b,0,none⟩)) (.pointer none)).run prog w=.ok (.bool false) w:=by kernel_rfl
theorem Zkf {α:Type} {has:Nat->Bool} {g:Nat->Except Int α}:∀ {k:Nat},Zcz has g k=.error z->∃ j,g j=.error z
 | 0,h=>by cases h
 | k+1,h=>by
  rw [Zcz] at h;cases hk:Zcz has g k with
  | error e=>rw [hk] at h;cases h;exact Zkf hk
  | ok l=>
   rw [hk] at h;simp only at h;split at h
   ·cases hg:g k with
    | error e=>rw [hg] at h;cases h;exact ⟨k,hg⟩
    | ok t=>rw [hg] at h;cases h
   ·cases h
theorem Zj3:∀ {n:Nat} {P:List (List Int)} {R:List Rw},(∀ x∈R,0<=x.1)->Y5 L n P R=.error z->0<=z
 | 0,P,R,hR,h=>by rw [Y5] at h;cases h;omega
 | n+1,P,R,hR,h=>by
  have hh:¬ R.length=0->0<=(R.headD (0,[],[])).1:=λ h0=>by
   cases R with
   | nil=>simp at h0
   | cons x r=>exact hR x (List.mem_cons_self ..)
  by_cases h0:R.length=0
  ·rw [Zb2 h0] at h;cases h
  ·cases hp:Y6 R P.length with
   | some c=>
    rw [Zaa h0 hp] at h;unfold BrF at h;cases hk:Xy L n P R c L.length with
    | ok l=>rw [hk] at h;cases h
    | error e=>
     rw [hk] at h;cases h;obtain ⟨j,hj⟩:=Zkf hk;refine Zj3 (λ x hx=>?_) hj;obtain ⟨y,hy,rfl⟩:=List.mem_map.1 hx;exact hR y (Zc3 hy).1
   | none=>
    by_cases h1:R.length=1
    ·rw [Zce h1 hp] at h;cases h
    ·rw [Zcb h0 h1 hp] at h;cases h;exact hh h0
theorem Zji {vs:List Value} (h:X6 w b bs L R lv vs) (n:Int) :
  Calls prog 52 #[.pointer (some ⟨b,0,none⟩),.int .i64 n] w (Zg7 L R n w):=by
 have hpn:=Zze;have hle:=h.le;have hok:=h.ok;obtain ⟨W1,hW1⟩:∃ W1,W1=((w.alloc (.cells #[.int .i64 n] 3)).alloc Zy).alloc (.cells #[.nilIface] 46):=⟨_,rfl⟩;have KW:Za w W1:=by rw [hW1];exact (((Zc.refl _ w).alloc _).alloc _).alloc _
 have ez:W1.heap.size=w.heap.size+1+1+1:=by rw [hW1];simp
 have BK:Hid (∀ ww,Za W1 ww->ww.heap[w.heap.size]? = some (.cells #[.int .i64 n] 3 (0,0))∧ww.heap[w.heap.size+1]? = some (.cells #[.int .i64 0,.int .i64 0,.slice none 0 0,.slice none 0 0] 63 (0,0))∧ww.heap[w.heap.size+1+1]? = some (.cells #[.nilIface] 46 (0,0))):=λ ww hk=>by
  have k1:Za (w.alloc (.cells #[.int .i64 n] 3)) W1:=by rw [hW1];exact (Zal9).alloc _
  have k2:Za ((w.alloc (.cells #[.int .i64 n] 3)).alloc Zy) W1:=by rw [hW1];exact Zal9
  have h3:=Zo (w.alloc (.cells #[.int .i64 n] 3)) Zy (.cells #[.nilIface] 46);rw [World.size_alloc] at h3;exact ⟨hk.at0 (k1.at0 (heap_alloc_new w _)),hk.at0 (k2.at0 (Zo _ _ _)),hk.at0 (by rw [hW1];exact h3)⟩
 have RC:Hid (∀ ww,Za W1 ww->ww.cell? ⟨w.heap.size,0,none⟩=some (.int .i64 n)∧(ww.cell? ⟨w.heap.size+1,0,none⟩=some (.int .i64 0)∧ww.cell? ⟨w.heap.size+1,1,none⟩=some (.int .i64 0)∧ww.cell? ⟨w.heap.size+1,2,none⟩=some (.slice none 0 0)∧ww.cell? ⟨w.heap.size+1,3,none⟩=some (.slice none 0 0))∧(ww.frozen? ⟨w.heap.size+1,0,none⟩=false∧ww.frozen? ⟨w.heap.size+1,1,none⟩=false∧ww.frozen? ⟨w.heap.size+1,2,none⟩=false∧ww.frozen? ⟨w.heap.size+1,3,none⟩=false)∧ww.cell? ⟨w.heap.size+1+1,0,none⟩=some .nilIface∧ww.frozen? ⟨w.heap.size+1+1,0,none⟩=false):=λ ww hk=>by
  obtain ⟨h1,h2,h3⟩:=BK.out ww hk;exact ⟨Zb h1 0,⟨Zb h2 0,Zb h2 1,Zb h2 2,Zb h2 3⟩,⟨Zg h2 0,Zg h2 1,Zg h2 2,Zg h2 3⟩,Zb h3 0,Zg h3 0⟩
 have CS:Hid (∀ ww,Za w ww->Calls prog 47 #[.pointer (some ⟨b,0,none⟩)] ww λ e w' => ∃ bt,e=.returned (.pointer (some ⟨bt,0,none⟩))∧Hid (Sg w'.heap.size w' bt L)∧Za ww w'):=λ ww hk=>by
  refine (Zbp (h.same hk)).mono ?_;rintro e w' ⟨bt,rfl,hb,sv,mr,h1,h2,h3⟩;exact ⟨bt,rfl,⟨⟨sv,mr,h1,λ k hk=>Ja h1 k hk⟩,h.sig.2⟩,h3⟩
 have HST:Hid (∀ ww,Za w ww->X6 ww b bs L R lv vs):=λ ww hk=>h.same hk
 have PUT:Hid (∀ ww x0 x1 x2 x3 y,Za W1 ww->((((((ww.setCell ⟨w.heap.size+1,0,none⟩ x0).setCell ⟨w.heap.size+1,1,none⟩ x1).setCell ⟨w.heap.size+1,2,none⟩ x2).setCell ⟨w.heap.size+1,3,none⟩ x3).setCell ⟨w.heap.size+1+1,0,none⟩ y)).cell? ⟨w.heap.size+1,0,none⟩=some x0∧((((((ww.setCell ⟨w.heap.size+1,0,none⟩ x0).setCell ⟨w.heap.size+1,1,none⟩ x1).setCell ⟨w.heap.size+1,2,none⟩ x2).setCell ⟨w.heap.size+1,3,none⟩ x3).setCell ⟨w.heap.size+1+1,0,none⟩ y)).cell? ⟨w.heap.size+1,1,none⟩=some x1∧((((((ww.setCell ⟨w.heap.size+1,0,none⟩ x0).setCell ⟨w.heap.size+1,1,none⟩ x1).setCell ⟨w.heap.size+1,2,none⟩ x2).setCell ⟨w.heap.size+1,3,none⟩ x3).setCell ⟨w.heap.size+1+1,0,none⟩ y)).cell? ⟨w.heap.size+1,2,none⟩=some x2∧((((((ww.setCell ⟨w.heap.size+1,0,none⟩ x0).setCell ⟨w.heap.size+1,1,none⟩ x1).setCell ⟨w.heap.size+1,2,none⟩ x2).setCell ⟨w.heap.size+1,3,none⟩ x3).setCell ⟨w.heap.size+1+1,0,none⟩ y)).cell? ⟨w.heap.size+1,3,none⟩=some x3∧((((((ww.setCell ⟨w.heap.size+1,0,none⟩ x0).setCell ⟨w.heap.size+1,1,none⟩ x1).setCell ⟨w.heap.size+1,2,none⟩ x2).setCell ⟨w.heap.size+1,3,none⟩ x3).setCell ⟨w.heap.size+1+1,0,none⟩ y)).cell? ⟨w.heap.size+1+1,0,none⟩=some y∧Zc (λ q=>q=w.heap.size+1∨q=w.heap.size+1+1) ww ((((((ww.setCell ⟨w.heap.size+1,0,none⟩ x0).setCell ⟨w.heap.size+1,1,none⟩ x1).setCell ⟨w.heap.size+1,2,none⟩ x2).setCell ⟨w.heap.size+1,3,none⟩ x3).setCell ⟨w.heap.size+1+1,0,none⟩ y))∧Za w ((((((ww.setCell ⟨w.heap.size+1,0,none⟩ x0).setCell ⟨w.heap.size+1,1,none⟩ x1).setCell ⟨w.heap.size+1,2,none⟩ x2).setCell ⟨w.heap.size+1,3,none⟩ x3).setCell ⟨w.heap.size+1+1,0,none⟩ y))):=by
  intro ww x0 x1 x2 x3 y hk;obtain ⟨h1,h2,h3⟩:=BK.out ww hk;have s3:=Zt (Zt (Zt (Zt h2 0 x0) 1 x1) 2 x2) 3 x3;have k1:=Zc.setCell (p:=⟨w.heap.size+1,0,none⟩) (Zc.refl (λ q=>q=w.heap.size+1) ww) (λ _=>rfl) x0;have k2:=Zc.setCell (p:=⟨w.heap.size+1,1,none⟩) k1 (λ _=>rfl) x1;have k3:=Zc.setCell (p:=⟨w.heap.size+1,2,none⟩) k2 (λ _=>rfl) x2;have k4:=Zc.setCell (p:=⟨w.heap.size+1,3,none⟩) k3 (λ _=>rfl) x3;have h3' := k4.at h3 (λ e=>by omega);have s4:=Zt h3' 0 y;have k5:=Zc.setCell (p:=⟨w.heap.size+1+1,0,none⟩) (Zc.refl (λ q=>q=w.heap.size+1+1) ((((ww.setCell ⟨w.heap.size+1,0,none⟩ x0).setCell ⟨w.heap.size+1,1,none⟩ x1).setCell ⟨w.heap.size+1,2,none⟩ x2).setCell ⟨w.heap.size+1,3,none⟩ x3)) (λ _=>rfl) y;have s3' := k5.at s3 (λ e=>by omega);have kk:Zc (λ q=>q=w.heap.size+1∨q=w.heap.size+1+1) ww ((((((ww.setCell ⟨w.heap.size+1,0,none⟩ x0).setCell ⟨w.heap.size+1,1,none⟩ x1).setCell ⟨w.heap.size+1,2,none⟩ x2).setCell ⟨w.heap.size+1,3,none⟩ x3).setCell ⟨w.heap.size+1+1,0,none⟩ y)):=Zc.trans (k4.mono (λ _ _ e=>.inl e)) k5 (λ _ _ e=>.inr e);exact ⟨Zb s3' 0,Zb s3' 1,Zb s3' 2,Zb s3' 3,Zb s4 0,kk,Zc.trans (KW.trans' hk) kk (λ i hi e=>by omega)⟩
 clear h;have C1:=CS.out W1 KW;cases hd:Xe L n with
 | false=>
  have FIN:Hid (∀ ww v,Za w ww->Zn ww [(80,0)] v->Zg7 L R n w (.returned (.tuple #[K9,v])) ww):=λ ww v hk hf=>⟨hk,by rw [hd];exact ⟨v,rfl,hf⟩⟩;have CD:Hid (∀ ww bt,Za W1 ww->Sg ww.heap.size ww bt L->Calls prog 88 #[.pointer (some ⟨bt,0,none⟩),.int .i64 n] ww λ e w' => e=.returned (.bool false)∧Za ww w'):=λ ww bt hk hs=>by rw [<- hd];exact Zms hs n
  clear hd
  go_enter func52,ntmps52
  go_upto_region 1 with fail
  rw [<- hW1];clear hW1
  go_upto_region 4 with ((go_at_call 47;refine C1.mono ?_;rintro e w2 ⟨bt,rfl,hs2,k2⟩))
  obtain ⟨r0,_⟩:=RC.out w2 k2;have C2:=CD.out w2 bt k2 hs2.out
  go_upto_region 5 with ((go_at_call 88;refine C2.mono ?_;rintro e w3 ⟨rfl,k3⟩))
  have k13:=k2.trans' k3;have ka:Za W1 (w3.alloc (.cells #[.int .i64 80,.int .i64 0,.nilIface] 116)):=Zc.alloc k13 _;obtain ⟨_,⟨q0,q1,q2,q3⟩,⟨f0,f1,f2,f3⟩,q4,f4⟩:=RC.out _ ka;have PP:=PUT.out _ (.int .i64 0) (.int .i64 0) (.slice none 0 0) (.slice none 0 0) (.iface 114 (.pointer (some ⟨w3.heap.size,0,none⟩))) ka;have PH:Hid _:=PP;clear PP
  go_wp2_with fail
  obtain ⟨g0,g1,g2,g3,g4,kk,ks⟩:=PH.out;have hf:=kk.at (heap_alloc_new w3 _) (λ e=>by have:=k13.size;omega);exact bodyPost_ret (v:=.tuple #[K9,.iface 114 (.pointer (some ⟨w3.heap.size,0,none⟩))]) (by simp [results,results52,go_sem,g0,g1,g2,g3,g4]) rfl (FIN.out _ _ ks (.inr ⟨by omega,_,_,rfl,hf,rfl⟩))
 | true=>
  obtain ⟨s,hs,rfl⟩:∃ s:Nat,s<L.length∧n=(s:Int):=by
   by_cases hx:n<0∨(L.length:Int)<=n
   ·rw [Zd4 hx] at hd;cases hd
   ·exact ⟨n.toNat,by omega,by omega⟩
  have CD:Hid (∀ ww bt,Za W1 ww->Sg ww.heap.size ww bt L->Calls prog 88 #[.pointer (some ⟨bt,0,none⟩),.int .i64 (s:Int)] ww λ e w' => e=.returned (.bool true)∧Za ww w'):=λ ww bt hk hs=>by rw [<- hd];exact Zms hs _
  have CR:Hid (∀ ww bt,Za W1 ww->Sg ww.heap.size ww bt L->Calls prog 91 #[.pointer (some ⟨bt,0,none⟩),.pointer (some ⟨b,0,none⟩),.int .i64 (s:Int)] ww λ e w' => ∃ po pc ro rc,e=.returned (.agg #[.pointer (some ⟨bt,0,none⟩),.slice po (Xl L s).length pc,.slice ro (Yi L R s).length rc])∧Hid (Zho w' L 2001 bt po pc (Xl L s) ro (Yi L R s))∧Za ww w'):=λ ww bt hk hg=>Zor hg (HST.out ww (KW.trans' hk)) hs;have CG:Hid (∀ ww bt po pc ro rc,Zho ww L 2001 bt po pc (Xl L s) ro (Yi L R s)->Calls prog 92 #[.agg #[.pointer (some ⟨bt,0,none⟩),.slice po (Xl L s).length pc,.slice ro (Yi L R s).length rc]] ww (Zba ww (J4 L R s))):=λ ww bt po pc ro rc hi=>Zkc L 2001 ww bt po pc _ ro rc _ hi;cases ht:J4 L R s with
  | ok t=>
   rw [ht] at CG
   have CG2:Hid (∀ ww bt po pc ro rc,Zho ww L 2001 bt po pc (Xl L s) ro (Yi L R s)->Calls prog 92 #[.agg #[.pointer (some ⟨bt,0,none⟩),.slice po (Xl L s).length pc,.slice ro (Yi L R s).length rc]] ww λ e w' => ∃ tk tr tpo tpl tpc tko tkl tkc,e=.returned (.agg #[.int .i64 tk,.int .i64 tr,.slice tpo tpl tpc,.slice tko tkl tkc])∧Hid (CsB (λ b=>ww.heap.size<=b) w' 2001 (.agg #[.int .i64 tk,.int .i64 tr,.slice tpo tpl tpc,.slice tko tkl tkc]) t)∧Za ww w'):=λ ww bt po pc ro rc hi=>by
    refine (CG.out ww bt po pc ro rc hi).mono ?_;rintro e w' ⟨v,rfl,h1,h2⟩;obtain ⟨tk,tr,tpo,tpl,tpc,tko,tkl,tkc,rfl⟩:=h1.shape;exact ⟨tk,tr,tpo,tpl,tpc,tko,tkl,tkc,rfl,h1,h2⟩
   have FIN:Hid (∀ ww v,Za w ww->CsB (λ b=>w.heap.size<=b) ww 2001 v t->Zg7 L R (s:Int) w (.returned (.tuple #[v,.nilIface])) ww):=λ ww v hk hf=>⟨hk,by rw [if_pos hd];simp only [Int.toNat_natCast];rw [ht];exact ⟨v,rfl,hf⟩⟩;clear hd CG ht
   go_enter_defers func52,ntmps52
   go_upto_region 1 with fail
   rw [<- hW1];clear hW1
   go_upto_region 4 with ((go_at_call 47;refine C1.mono ?_;rintro e w2 ⟨bt,rfl,hs2,k2⟩))
   obtain ⟨r0,_⟩:=RC.out w2 k2;have C2:=CD.out w2 bt k2 hs2.out
   go_upto_region 7 with ((go_at_call 88;refine C2.mono ?_;rintro e w3 ⟨rfl,k3⟩))
   have k13:=k2.trans' k3;obtain ⟨r3,_⟩:=RC.out w3 k13;have C3:=CR.out w3 bt k13 (Zbs (hs2.out.same k3) k3.size)
   go_wp2_with (first
    | (go_at_call 91;refine C3.mono ?_;rintro e w4 ⟨po,pc,ro,rc,rfl,hi,k4⟩;have C4:=CG2.out w4 bt po pc ro rc hi.out)
    | (go_at_call 92;refine C4.mono ?_;rintro e w5 ⟨tk,tr,tpo,tpl,tpc,tko,tkl,tkc,rfl,hcs,k5⟩;have k15:=(k13.trans' k4).trans' k5;obtain ⟨_,⟨q0,q1,q2,q3⟩,⟨f0,f1,f2,f3⟩,q4,f4⟩:=RC.out _ k15))
   have PH:Hid _:=PUT.out w5 (.int .i64 tk) (.int .i64 tr) (.slice tpo tpl tpc) (.slice tko tkl tkc) .nilIface k15;refine leaves_cons (f:=89) (args:=#[.pointer (some ⟨w.heap.size,0,none⟩),.pointer (some ⟨w.heap.size+1+1,0,none⟩)]) (by simp) (by simp [go_sem]) ?_;refine (Zpc _).mono ?_;rintro e u' w'' ⟨rfl,rfl,rfl⟩;obtain ⟨g0,g1,g2,g3,g4,kk,ks⟩:=PH.out;have z4:=(k13.trans' k4).size;simp [Leaves,settle,results,results52,go_sem,g0,g1,g2,g3,g4];exact FIN.out _ _ ks (CsB.mono (λ b hb q=>by have:w4.heap.size<=b:=q;omega) (CsB.kept kk (λ b q e=>by have:w4.heap.size<=b:=q;omega) hcs.out))
  | error z=>
   rw [ht] at CG
   have hz:0<=z:=by
    refine Zj3 (λ x hx=>?_) ht;obtain ⟨y,hy,rfl⟩:=List.mem_map.1 hx;obtain ⟨j,hj,rfl,_⟩:=Zbl hok hy;show (0:Int)<=(j:Int);omega
   have CG2:Hid (∀ ww bt po pc ro rc,Zho ww L 2001 bt po pc (Xl L s) ro (Yi L R s)->Calls prog 92 #[.agg #[.pointer (some ⟨bt,0,none⟩),.slice po (Xl L s).length pc,.slice ro (Yi L R s).length rc]] ww λ e w' => ∃ k,e=.panicked [{ v:=.iface 114 (.pointer (some ⟨k,0,none⟩)),recovered:=false }]∧Hid (w'.heap[k]? = some (.cells #[.int .i64 82,.int .i64 z,.nilIface] 116 (0,0)))∧Za ww w'):=λ ww bt po pc ro rc hi=>by
    refine (CG.out ww bt po pc ro rc hi).mono ?_;rintro e w' ⟨⟨k,h1,h2⟩,h3⟩;exact ⟨k,h1,h2,h3⟩
   have FIN:Hid (∀ ww v,Za w ww->Zn ww [(81,(s:Int)),(82,z)] v->Zg7 L R (s:Int) w (.returned (.tuple #[K9,v])) ww):=λ ww v hk hf=>⟨hk,by rw [if_pos hd];simp only [Int.toNat_natCast];rw [ht];exact ⟨v,rfl,hf⟩⟩;clear hd CG ht
   go_enter_defers func52,ntmps52
   go_upto_region 1 with fail
   rw [<- hW1];clear hW1
   go_upto_region 4 with ((go_at_call 47;refine C1.mono ?_;rintro e w2 ⟨bt,rfl,hs2,k2⟩))
   obtain ⟨r0,_⟩:=RC.out w2 k2;have C2:=CD.out w2 bt k2 hs2.out
   go_upto_region 7 with ((go_at_call 88;refine C2.mono ?_;rintro e w3 ⟨rfl,k3⟩))
   have k13:=k2.trans' k3;obtain ⟨r3,_⟩:=RC.out w3 k13;have C3:=CR.out w3 bt k13 (Zbs (hs2.out.same k3) k3.size)
   go_wp2_with (first
    | (go_at_call 91;refine C3.mono ?_;rintro e w4 ⟨po,pc,ro,rc,rfl,hi,k4⟩;have C4:=CG2.out w4 bt po pc ro rc hi.out)
    | (go_at_call 92;refine C4.mono ?_;rintro e w5 ⟨k,rfl,hk,k5⟩))
   have k15:=(k13.trans' k4).trans' k5;obtain ⟨x0,⟨q0,q1,q2,q3⟩,⟨f0,f1,f2,f3⟩,q4,f4⟩:=RC.out _ k15;obtain ⟨b1,b2,b3⟩:=BK.out w5 k15;refine leaves_cons (f:=89) (args:=#[.pointer (some ⟨w.heap.size,0,none⟩),.pointer (some ⟨w.heap.size+1+1,0,none⟩)]) (by simp) (by simp [go_sem]) ?_;refine (Zoi k w5 x0 b3 (by omega)).mono ?_;rintro e u' w6 ⟨rfl,rfl,q,h1,h2,k6⟩;have b2' := k6.at b2 (λ e=>by omega);have g0:=Zb b2' 0;have g1:=Zb b2' 1;have g2:=Zb b2' 2;have g3:=Zb b2' 3;have g4:=Zb h2 0;simp only [List.getElem?_toArray,List.getElem?_cons_zero,List.getElem?_cons_succ] at g0 g1 g2 g3 g4;have hk6:=k6.at hk.out (λ e=>by subst e;have:=hk.out;rw [b3] at this;cases this);have ks:Za w w6:=Zc.trans (KW.trans' k15) k6 (λ i hi e=>by omega);simp [Leaves,settle,results,results52,go_sem,g0,g1,g2,g3,g4];exact FIN.out _ _ ks (.inr ⟨by omega,q,_,rfl,h1,.inr ⟨by omega,k,_,rfl,hk6,rfl⟩⟩)
end
structure GL (n:Nat) (R:List Rw) (t:Tr n):Prop where
 len:(Zix n t).length=R.length
 mem:∀ x∈R,x.1∈Zix n t
 fl:(szT n t).2.2=if R.length=0 then 1 else 0
 br:(szT n t).2.1<=n * R.length
 lv:(szT n t).1=R.length
 b0:(szT n t).2.1=0->R.length<=1
 sm:SmK n t
def cntR (R:List Rw) (c:Nat) (k:Nat):Nat:=(R.filter (λ x=>decide (Vr x c<(k:Int)))).length
structure KL (n:Nat) (R:List Rw) (c k:Nat) (l:List (Int × Tr n)):Prop where
 len:(l.flatMap (λ x=>Zix n x.2)).length=cntR R c k
 mem:∀ x∈R,Vr x c<(k:Int)->x.1∈l.flatMap (λ x=>Zix n x.2)
 fl:(sum3 (λ x=>szT n x.2) l).2.2=0
 br:(sum3 (λ x=>szT n x.2) l).2.1<=n * cntR R c k
 lv:(sum3 (λ x=>szT n x.2) l).1=cntR R c k
 le:l.length<=k
 sm:∀ i (h:i<l.length),SmK n l[i].2
def K3:(n:Nat)->Tr n->Prop
 | 0,_=>True
 | n+1,(k,r,p,l)=>(k=1∨k=2∨k=3)∧∀ x∈l,K3 n x.2
def Kr (L:List Sym) (R:List Ru):Nat->St9 × List Int
 | 0=>(([],[]),[])
 | k+1=>if Xe L (k:Int)=true then (match J4 L R k with | .ok t=>(Jz 2001 t (Kr L R k).1,(Kr L R k).2 ++ [((Kr L R k).1.1.length:Int)]) | .error _=>((Kr L R k).1,(Kr L R k).2)) else ((Kr L R k).1,(Kr L R k).2 ++ [-1])
theorem Zc6 {k:Nat} (h:Xe L (k:Int)=true) {t:Tr 2001} (ht:J4 L R k=.ok t):Kr L R (k+1)=(Jz 2001 t (Kr L R k).1,(Kr L R k).2 ++ [((Kr L R k).1.1.length:Int)]):=by rw [Kr,if_pos h,ht]
section
open Go.RowKit
attribute [local go_sem ↓] Go.wp_at_zero Go.wp_at_succ
structure Lent7 (base:Nat) (w:World) (v:Value) (l:List Ru) (k:Nat) (vs:List Value) (f:Nat->Nat):Prop where
 row:w.ownsRow base 90 2 v k vs
 le:k<=l.length
 lo:∀ i,i<k * 2->base<=f i∧f i<w.heap.size
 up:∀ i j,i<j->j<k * 2->f i<f j
 one:∀ i (h:i<l.length),i<k->vs[i * 2]? = some (.slice (some ⟨f (i * 2),0,none⟩) l[i].1.length (l[i].1.length+1))∧Row base w (.slice (some ⟨f (i * 2),0,none⟩) (l[i].1.length+1) (l[i].1.length+1)) (l[i].1 ++ [77])
 two:∀ i (h:i<l.length),i<k->vs[i * 2+1]? = some (.slice (some ⟨f (i * 2+1),0,none⟩) l[i].2.length (l[i].2.length+1))∧Row base w (.slice (some ⟨f (i * 2+1),0,none⟩) (l[i].2.length+1) (l[i].2.length+1)) (l[i].2 ++ [78])
structure Left7 (base:Nat) (w:World) (gv:Nat) (l:List Ru) (k:Nat) (f:Nat->Nat):Prop where
 blk:∃ cur,w.heap[gv]? = some (.cells cur 90 (0,0))∧l.length * 2<=cur.size∧∀ i (h:i<l.length),k<=i->cur[i * 2]? = some (.slice (some ⟨f (i * 2),0,none⟩) l[i].1.length (l[i].1.length+1))∧cur[i * 2+1]? = some (.slice (some ⟨f (i * 2+1),0,none⟩) l[i].2.length (l[i].2.length+1))
 ge:base<=gv∧∀ i,i<l.length * 2->base<=f i
 up:∀ i j,i<j->j<l.length * 2->f i<f j
 one:∀ i (h:i<l.length),k<=i->Row base w (.slice (some ⟨f (i * 2),0,none⟩) (l[i].1.length+1) (l[i].1.length+1)) (l[i].1 ++ [77])
 two:∀ i (h:i<l.length),k<=i->Row base w (.slice (some ⟨f (i * 2+1),0,none⟩) (l[i].2.length+1) (l[i].2.length+1)) (l[i].2 ++ [78])
theorem step_ownT {wb W : World} {ops : Array Oper} {o : Oper} {a : Act} {K : Act → World → Prop} {Q : Exit → Act → World → Prop} {E : Prop} (hgd : o.guard = none) (s x : Operand)
    (ho : o.op = .call { callee := .builtin .append, args := #[s, x], argTypes := #[74, 74] })
    (B : Nat) (hs : a.eval s = .slice (some ⟨B, 0, none⟩) 0 0) (ys : List Int) (ad : Addr) (c : Nat) (hx : a.eval x = .slice (some ad) ys.length c)
    (hW : Za wb W) (hB : W.heap[B]? = some (.cells #[] 3 (0, 0))) (hb : wb.heap.size <= B) (hy : Zh wb (some ad) ys) (hn : 0 < ys.length) (hsz : ys.length <= 2000)
    (h : ∀ g cap w', Yu w' g cap ys -> wb.heap.size <= g -> Za wb w' -> (∀ g2 c2 zs, Yu W g2 c2 zs -> 0 < zs.length -> Yu w' g2 c2 zs) -> (∀ q o, q ≠ B -> W.heap[q]? = some o -> w'.heap[q]? = some o) -> K (a.put o.dst (.slice (some ⟨g, 0, none⟩) ys.length cap)) w') :
    if Region.wanted o (yielded ops a.tmps) = true then Oper.wp prog o a W K Q else E := by
  obtain ⟨i, hi, hz0, hz1, hz2⟩ := info_parts V7;have hBl := Zi hB;refine step_append_lies _ hgd s x 74 ho wb.heap.size 3 i _ 1 8 underlying74 hi hz0 hz1 hz2 rfl (by decide) (.slice (some ⟨B, 0, none⟩) 0 0) 0 [] hs ⟨rfl, .inr ⟨B, 0, #[], rfl, hb, hB, Nat.le_refl _, by unfold maxLen; omega, rfl, rfl⟩⟩ ad ys.length c (iv ys) hx (by rw [Ye]; omega) (λ j u hj => ?_) (Zan ys) hn (by unfold maxLen; omega) (by omega) hW.size W.heap.size rfl ?_
  · obtain ⟨ad', e, hc⟩ := (hy.same hW).src (by have := (List.getElem?_eq_some_iff.1 hj).1; omega)
    cases e
    exact hc j u hj
  · intro g cap w' hown hgrow hat hlt
    have k : Zc (λ k => k = B) W w' := Zc.grown (Zc.refl _ W) hgrow (λ _ e _ => by simp only [Value.ownBlock, Option.some.injEq] at e; exact e.symm);simp only [Nat.zero_add, List.nil_append] at hown ⊢
    refine h g cap w' ?_ (by rcases hat with e | e; · simp only [Value.ownBlock, Option.some.injEq] at e; omega
                             · have := hW.size; omega) (hW.trans (Zc.mono k (λ i hi e => e)) (λ i hi e => by omega)) (λ g2 c2 zs ht hz => ?_) (λ q o hq ho => k.at ho hq)
    · refine ⟨hown.1, .inr ?_⟩
      rcases hown.2 with ⟨e, _⟩ | ⟨g', c', cur, e, _, r⟩
      · cases e
      · cases e
        exact ⟨g, cap, cur, rfl, Nat.le_refl _, r⟩
    · refine k.row ht (λ q e hq => ?_)
      rcases ht.2 with ⟨e0, _⟩ | ⟨g', c', cur, e1, _, hg, h1, h2, h3, h4⟩
      · cases e0
      · cases e1
        simp only [Value.ownBlock, Option.some.injEq] at e;subst e; subst hq;rw [hB] at hg;cases hg;simp at h3;omega
theorem Zwb {a1 a2:Addr} (h1:Zh w (some a1) x.1) (h2:Zh w (some a2) x.2) (p1:0<x.1.length) (p2:0<x.2.length) (m1:x.1.length<=2000) (m2:x.2.length<=2000) :
  Calls prog 96 #[.agg #[.slice (some a1) x.1.length ac,.slice (some a2) x.2.length bc]] w λ e w' => ∃ g c g' c', e=.returned (.agg #[.slice (some ⟨g,0,none⟩) x.1.length c,.slice (some ⟨g', 0,none⟩) x.2.length c'])∧Yu w' g c x.1∧Yu w' g' c' x.2∧w.heap.size<=g∧w.heap.size<=g' ∧ Za w w' := by
 obtain ⟨wb,hwb⟩:∃ wb,wb=(w.alloc (.cells #[.slice (some a1) x.1.length ac,.slice (some a2) x.2.length bc] 90)).alloc (.cells #[.slice none 0 0,.slice none 0 0] 90):=⟨_,rfl⟩;have K0:Za w wb:=by rw [hwb];exact ((Zc.refl _ w).alloc _).alloc _
 have z0:wb.heap.size=w.heap.size+2:=by rw [hwb];simp
 have B0:wb.heap[w.heap.size]? = some (.cells #[.slice (some a1) x.1.length ac,.slice (some a2) x.2.length bc] 90 (0,0)):=by rw [hwb];exact heap_alloc2_old _ _ _
 have B1:wb.heap[w.heap.size+1]? = some (.cells #[.slice none 0 0,.slice none 0 0] 90 (0,0)):=by rw [hwb];exact Zo _ _ _
 have HS:Hid (∀ ww,Za wb ww->(ww.cell? ⟨w.heap.size,0,none⟩=some (.slice (some a1) x.1.length ac)∧ww.cell? ⟨w.heap.size,1,none⟩=some (.slice (some a2) x.2.length bc))∧(ww.cell? ⟨w.heap.size+1,0,none⟩=some (.slice none 0 0)∧ww.cell? ⟨w.heap.size+1,1,none⟩=some (.slice none 0 0))∧ww.frozen? ⟨w.heap.size+1,0,none⟩=false∧ww.frozen? ⟨w.heap.size+1,1,none⟩=false):=λ ww hk=>⟨⟨Zb (hk.at0 B0) 0,Zb (hk.at0 B0) 1⟩,⟨Zb (hk.at0 B1) 0,Zb (hk.at0 B1) 1⟩,Zg (hk.at0 B1) 0,Zg (hk.at0 B1) 1⟩;have HEnd:Hid (∀ ww (A B:Value),Za wb ww->Za w ((ww.setCell ⟨w.heap.size+1,0,none⟩ A).setCell ⟨w.heap.size+1,1,none⟩ B)):=λ ww A B hk=>((K0.trans' hk).setCell (λ h=>absurd h (by simp)) _).setCell (λ h=>absurd h (by simp)) _
 have HT:Hid (∀ ww g c xs (A B:Value),Yu ww g c xs->wb.heap.size<=g->Yu ((ww.setCell ⟨w.heap.size+1,0,none⟩ A).setCell ⟨w.heap.size+1,1,none⟩ B) g c xs):=λ ww g c xs A B ht hg=>by
  have k:Zc (λ k=>k=w.heap.size+1) ww ((ww.setCell ⟨w.heap.size+1,0,none⟩ A).setCell ⟨w.heap.size+1,1,none⟩ B):=Zc.setCell (p:=⟨w.heap.size+1,1,none⟩) (Zc.setCell (p:=⟨w.heap.size+1,0,none⟩) (Zc.refl (λ k=>k=w.heap.size+1) ww) (λ _=>rfl) A) (λ _=>rfl) B;exact k.row ht (λ i e=>by simp [Value.ownBlock] at e;omega)
 have HR:Hid (∀ ww (A B:Value),Za wb ww->((ww.setCell ⟨w.heap.size+1,0,none⟩ A).setCell ⟨w.heap.size+1,1,none⟩ B).cell? ⟨w.heap.size+1,0,none⟩=some A∧((ww.setCell ⟨w.heap.size+1,0,none⟩ A).setCell ⟨w.heap.size+1,1,none⟩ B).cell? ⟨w.heap.size+1,1,none⟩=some B):=λ ww A B hk=>by
  have b:=Zt (Zt (hk.at0 B1) 0 A) 1 B;exact ⟨Zb b 0,Zb b 1⟩
 have I1:=h1.same K0;have I2:=h2.same K0;obtain ⟨⟨c00,c01⟩,⟨c10,c11⟩,f10,f11⟩:=HS.out wb (Zc.refl _ _);have HW:Hid (wb=(w.alloc (.cells #[.slice (some a1) x.1.length ac,.slice (some a2) x.2.length bc] 90)).alloc (.cells #[.slice none 0 0,.slice none 0 0] 90)):=hwb;clear B0 B1 h1 h2 hwb
 go_enter func96,ntmps96
 go_wp2;rw [<- HW.out];have E0:(wb.alloc (.cells #[] 3)).heap[w.heap.size+2]? = some (.cells #[] 3 (0,0)):=by rw [<- z0];exact heap_alloc_new _ _
 have E1:((wb.alloc (.cells #[] 3)).alloc (.cells #[] 3)).heap[w.heap.size+2]? = some (.cells #[] 3 (0,0)):=by rw [<- z0];exact heap_alloc2_old _ _ _
 have E2:((wb.alloc (.cells #[] 3)).alloc (.cells #[] 3)).heap[w.heap.size+3]? = some (.cells #[] 3 (0,0)):=by have:=heap_alloc_new (wb.alloc (.cells #[] 3)) (.cells #[] 3 (0,0));rw [World.size_alloc,z0] at this;exact this
 have HE:Hid ((wb.alloc (.cells #[] 3)).heap[w.heap.size+2]? = some (.cells #[] 3 (0,0))∧((wb.alloc (.cells #[] 3)).alloc (.cells #[] 3)).heap[w.heap.size+2]? = some (.cells #[] 3 (0,0))∧((wb.alloc (.cells #[] 3)).alloc (.cells #[] 3)).heap[w.heap.size+3]? = some (.cells #[] 3 (0,0))):=⟨E0,E1,E2⟩;have hz0:Hid (wb.heap.size=w.heap.size+2):=z0;clear E0 E1 E2;rename_i QQ KK hKK
 have FIN:Hid (∀ (t0 t1 t3 t4 t5 t6 t7 t8 t9 t10 t11:Value) (w2:World) (g c g' c' : Nat),Za wb w2->Yu w2 g c x.1->Yu w2 g' c' x.2->wb.heap.size<=g->wb.heap.size<=g' -> KK { tmps:=#[t0,t1,.pointer (some ⟨w.heap.size+1,0,none⟩),t3,t4,t5,t6,t7,t8,t9,t10,t11],defers:=[] } ((w2.setCell ⟨w.heap.size+1,0,none⟩ (.slice (some ⟨g,0,none⟩) x.1.length c)).setCell ⟨w.heap.size+1,1,none⟩ (.slice (some ⟨g', 0,none⟩) x.2.length c'))):=by
  intro t0 t1 t3 t4 t5 t6 t7 t8 t9 t10 t11 w2 g c g' c' S3 T5 T3 G1 G3;apply hKK;clear HS I1 I2;go_wp2;exact bodyPost_ret (v:=.agg #[.slice (some ⟨g,0,none⟩) x.1.length c,.slice (some ⟨g', 0,none⟩) x.2.length c']) (by obtain ⟨r0,r1⟩:=HR.out w2 (.slice (some ⟨g,0,none⟩) x.1.length c) (.slice (some ⟨g', 0,none⟩) x.2.length c') S3;simp [results,results96,go_sem,r0,r1]) rfl ⟨g,c,g', c', rfl,HT.out _ _ _ _ _ _ T5 G1,HT.out _ _ _ _ _ _ T3 G3,by omega,by omega,HEnd.out _ _ _ S3⟩
 clear HR HT HEnd
 go_region_law (first
  | (have T2:=T1;have hz:=hz0.out;have hzz:=S1.size;refine step_ownT (wb:=wb) (by rfl) _ _ (by rfl) _ (by rfl) x.2 a2 bc (by rfl) (by first | exact S1 | exact S1.alloc _) (by first | exact heap_alloc_new _ _ | exact X2 | exact X3) (by omega) I2 p2 m2 ?_;intro g' c' w2 T3 G3 S3 T4 _;obtain ⟨⟨e00,e01⟩,⟨e10,e11⟩,y10,y11⟩:=HS.out w2 S3;have T5:=T4 _ _ _ (by first | exact T2 | exact T2.same (Zal9)) p1)
  | (have hz:=hz0.out;refine step_ownT (wb:=wb) (by rfl) _ _ (by rfl) _ (by rfl) x.1 a1 ac (by rfl) (by first | exact ((Zc.refl _ wb).alloc _).drew | exact (((Zc.refl _ wb).alloc _).alloc _).drew | exact (Zc.refl _ wb).drew.alloc _ | exact ((Zc.refl _ wb).drew.alloc _).alloc _) (by first | exact HE.out.1 | exact HE.out.2.1 | exact HE.out.2.2) (by omega) I1 p1 m1 ?_;intro g c w1 T1 G1 S1 T0 KQ;obtain ⟨⟨e00,e01⟩,⟨e10,e11⟩,y10,y11⟩:=HS.out w1 S1;obtain ⟨⟨_,e01'⟩,_⟩:=HS.out _ (S1.alloc (.cells #[] 3)); (try have X2:=KQ (w.heap.size+2) _ (by omega) HE.out.2.1); (try have X3:=KQ (w.heap.size+3) _ (by omega) HE.out.2.2);clear hz KQ T0))
 all_goals exact FIN.out _ _ _ _ _ _ _ _ _ _ _ w2 g c g' c' S3 T5 T3 G1 G3
theorem Zud {ao bo:Option Addr} (h1:Zh w ao x.1) (h2:Zh w bo x.2) (m1:x.1.length<=2000) (m2:x.2.length<=2000) (b1:∀ n∈x.1, -99<=n) (b2:∀ n∈x.2, -99<=n) :
  Calls prog 192 #[.agg #[.slice ao x.1.length ac,.slice bo x.2.length bc]] w λ e w' => e=.returned (.bool (!x.2.all (λ n=>!Kq x.1 n)))∧Za w w' := by
 rw [<- Zzy b1 b2];have W0:Za w (w.alloc (.cells #[.slice ao x.1.length ac,.slice bo x.2.length bc] 90)):=(Zc.refl _ w).alloc _;have hb:=heap_alloc_new w (.cells #[.slice ao x.1.length ac,.slice bo x.2.length bc] 90);have HB:Hid (∀ ww,Za (w.alloc (.cells #[.slice ao x.1.length ac,.slice bo x.2.length bc] 90)) ww->ww.cell? ⟨w.heap.size,0,none⟩=some (.slice ao x.1.length ac)∧ww.cell? ⟨w.heap.size,1,none⟩=some (.slice bo x.2.length bc)):=λ ww hk=>⟨Zb (hk.at0 hb) 0,Zb (hk.at0 hb) 1⟩;have l1:(Zx x.1).length<=x.1.length:=by have:=Zf7 [] x.1;simpa [Zx] using this
 have l2:(Zx x.2).length<=x.2.length:=by have:=Zf7 [] x.2;simpa [Zx] using this
 have C1:=Zeh (cap:=ac) (h1.same W0) (by omega);have C2:Hid (∀ ww,Za (w.alloc (.cells #[.slice ao x.1.length ac,.slice bo x.2.length bc] 90)) ww->Calls prog 223 #[.slice bo x.2.length bc] ww λ e w' => ∃ v,e=.returned v∧Row ww.heap.size w' v (Zx x.2)∧Za ww w'):=λ ww hk=>Zeh (cap:=bc) ((h2.same W0).same hk) (by omega);obtain ⟨c0,c1⟩:=HB.out _ (Zc.refl _ _);clear h1 h2 hb b1 b2
 go_enter func192,ntmps192
 go_upto_region 2 with ((go_at_call 223;refine C1.mono ?_;rintro e w2 ⟨v2,rfl,hr2,hk2⟩;obtain ⟨vo,vc,rfl,hi2,_,_⟩:=hr2.ints))
 obtain ⟨d0,d1⟩:=HB.out _ hk2;have C3:=C2.out _ hk2;clear c0 c1 C1 C2
 go_upto_region 3 with ((go_at_call 223;refine C3.mono ?_;rintro e w3 ⟨v3,rfl,hr3,hk3⟩;obtain ⟨uo,uc,rfl,hi3,_,_⟩:=hr3.ints))
 have hi2' := hi2.same hk3;have K3:Hid (Za w w3):=W0.trans' (hk2.trans' hk3);clear d0 d1 C3 hr2 hr3 hk2 hk3 hi2 HB W0;have CI:=λ z=>Zqq (cap:=vc) hi2' z (by unfold maxLen;omega);go_wp2
 go_loop [5] (λ i=>∃ k:Nat,k<=(Zx x.2).length∧i=.int .i64 (k:Int)∧Hid (((Zx x.2).take k).all (λ v=>inB (Zx x.1) v)=true)) (λ i=>(Zx x.2).length-(intOf i).toNat)
 case atStart=>exact ⟨0,Nat.zero_le _,rfl,by show _=_;simp⟩
 case round=>
  obtain ⟨k,hk,rfl,ha⟩:=hrel
  by_cases hlt:k<(Zx x.2).length
  ·obtain ⟨tb,off', rfl,_,hcell⟩:=hi3.get hlt
   have i1:(0:Int)<=(k:Int):=by omega
   have i2:(k:Int)<((Zx x.2).length:Int):=by omega
   have C:=CI (Zx x.2)[k];cases hq:inB (Zx x.1) (Zx x.2)[k] with
   | true=>
    have H:Hid (((Zx x.2).take (k+1)).all (λ v=>inB (Zx x.1) v)=true):=by
     have:=ha.out;show _=_;rw [List.take_add_one,List.getElem?_eq_getElem hlt,List.all_append,this];simp [hq]
    rw [hq] at C;clear hq ha
    go_wp2_with ((go_at_call 224;refine C.mono ?_;rintro e w4 ⟨rfl,rfl⟩))
    exact ⟨⟨k+1,by omega,by go_num,H⟩,by simp [intOf];omega⟩
   | false=>
    have H:Hid ((Zx x.2).all (λ v=>inB (Zx x.1) v)=false):=by
     show _=_;rw [List.all_eq_false];exact ⟨(Zx x.2)[k],List.getElem_mem hlt,by simp [hq]⟩
    rw [hq] at C;clear hq ha
    go_wp2_with ((go_at_call 224;refine C.mono ?_;rintro e w4 ⟨rfl,rfl⟩))
    go_ret;exact ⟨by rw [H.out];rfl,K3.out⟩
  ·have H:Hid ((Zx x.2).all (λ v=>inB (Zx x.1) v)=true):=by
    have:=ha.out;rw [List.take_of_length_le (by omega)] at this;exact this
   have hlt' : ¬ (k:Int)<((Zx x.2).length:Int):=by omega
   go_wp2;go_ret;exact ⟨by rw [H.out];rfl,K3.out⟩
theorem Zw9 (hx:x=l.getD n ([],[])) (hp:0<x.1.length):ckB L R l 3 n=Xe L x.1[0]:=by
 subst hx;show Xe L ((l.getD n ([],[])).1.headD (-1))=_;generalize (l.getD n ([],[])).1=y at *;cases y with
 | nil=>simp at hp
 | cons y r=>simp
theorem Zw2 (hx:x=l.getD n ([],[])):ckB L R l 4 n=decide (Zay x.1=(Zx x.1).length):=by subst hx;rfl
theorem Zxc (hx:x=l.getD n ([],[])):ckB L R l 5 n=x.1.tail.all (λ n=>!Xe L n):=by subst hx;rfl
theorem Zxd (hx:x=l.getD n ([],[])):ckB L R l 6 n=x.2.all (λ n=>!Kq x.1 n):=by subst hx;rfl
theorem Yv.ok1 {j:Nat} (h:Yv L R l (j+2) n) (hi:i<l.length):Zd L l[i].1=0∧Zd L l[i].2=0:=by
 have:=h.1 1 (by omega) i hi;simp only [ckB,Kw,Bool.and_eq_true,decide_eq_true_eq] at this
 simpa [List.getD,hi] using this
theorem Zk6 {ro:Option Addr} {rc:Nat} {mo:Option Addr} {mc:Nat} (h:MR w m ro rc mo mc L R) {lo:Option Addr} {lc:Nat} (hl:Vh w lo l) (hn:l.length<=100) (hu:Yv L R l 3 0) :
  Calls prog 138 #[.pointer (some ⟨m,0,none⟩),.slice lo l.length lc] w λ e w' => ∃ ws v,e=.returned v∧Zaw L R l 3 7 ws∧Xh w' v ws∧Za w w' := by
 have hs:Za w w:=Zc.refl _ _;have hu2:Hid (Yv L R l 3 0):=hu;have hok:∀ i (hi:i<l.length),Zd L l[i].1=0∧Zd L l[i].2=0:=λ i hi=>hu.ok1 hi;clear hu
 go_enter func138,ntmps138
 go_wp2
 go_loopw [5] (λ i wr=>∃ n:Nat,n<=l.length∧i=.int .i64 (n:Int)∧Hid (Yv L R l 3 n)∧Za w wr) (λ i _=>l.length-(intOf i).toNat)
 case atStart=>exact ⟨0,Nat.zero_le _,rfl,hu2,hs⟩
 case round=>
  clear hs hu2 ;obtain ⟨n,hnl,rfl,hu,hs⟩:=hrel
  by_cases hlt:n<l.length
  ·obtain ⟨lb,off,rfl,hlb,hru⟩:=(hl.same hs).get hlt
   obtain ⟨x,hx0⟩:∃ x,x=l[n]:=⟨_,rfl⟩;have hxo:=hok n hlt;rw [<- hx0] at hru hxo;have hx:x=l.getD n ([],[]):=by rw [hx0];simp [List.getD,hlt]
   obtain ⟨ao,ac,bo,bc,r0,r1,A1,A2⟩:=hru;have i1:(0:Int)<=(n:Int):=by omega
   have i2:(n:Int)<(l.length:Int):=by omega
   have hm1:=h.same hs;obtain ⟨⟨hp1,hm11⟩,hp2,hm22⟩:=Yr hxo;have P0:Hid (ckB L R l 3 n=true->Yv L R l 3 (n+1)):=λ q=>hu.out.step q;have P1:Hid (ckB L R l 3 n=false->Zaw L R l 3 7 [(73,(n:Int))]):=λ q=>.inr ⟨3,n,by omega,by omega,hlt,hu.out,q,rfl⟩
   obtain ⟨ab,ao', rfl,HX⟩:∃ ab ao', ao=some ⟨ab,ao', none⟩∧Hid (∀ ww,Za wr ww->ww.cell? ⟨ab,ao', none⟩=some (.int .i64 x.1[0])):=by
    obtain ⟨ab,ao', e,hlt', hc⟩:=A1.at'.get hp1;exact ⟨ab,ao', e,λ ww hk=>(hk.cell (p:=⟨ab,ao' + 0,none⟩) hlt' (λ f=>f)).trans hc⟩
   have i3:(0:Int)<(x.1.length:Int):=by omega
   have HS:Hid (∀ ww,Za wr ww->ww.cell? ⟨m,0,none⟩=some (.slice ro L.length rc)∧ww.cell? ⟨lb,off+n * 2,none⟩=some (.slice (some ⟨ab,ao', none⟩) x.1.length ac)∧ww.cell? ⟨ab,ao', none⟩=some (.int .i64 x.1[0])):=λ ww hk=>⟨Zb (hm1.same hk).blk 0,(hk.cell (p:=⟨lb,off+n * 2,none⟩) hlb (λ f=>f)).trans r0,HX.out ww hk⟩;have CC0:=HS.out wr (Zc.refl _ _);have W1:Za wr wr.drew:=Zc.drew (Zc.refl _ _);have C1:Hid (∀ ww,Za wr ww->Calls prog 97 #[.slice ro L.length rc,.int .i64 x.1[0]] ww λ e w' => e=.returned (.bool (Xe L x.1[0]))∧Za wr w'):=λ ww hk=>(Zhp (hm1.same hk).rl x.1[0]).mono (λ e w' ⟨q1,q2⟩=>⟨q1,by rw [q2];exact hk⟩);cases hq:Xe L x.1[0] with
   | true=>
    have P:=P0.out (by rw [Zw9 hx hp1,hq]);have C2:Hid (∀ ww,Za wr ww->Calls prog 97 #[.slice ro L.length rc,.int .i64 x.1[0]] ww λ e w' => e=.returned (.bool true)∧Za wr w'):=by simpa only [hq] using C1
    clear P0 P1 hq hx hx0 hu hm1 A1 A2 C1;go_wp2
    go_region_held3 (λ w' => w'.cell? ⟨m,0,none⟩=some (.slice ro L.length rc)∧w'.cell? ⟨lb,off+n * 2,none⟩=some (.slice (some ⟨ab,ao', none⟩) x.1.length ac)∧w'.cell? ⟨ab,ao', none⟩=some (.int .i64 x.1[0])) (first | exact cc1 | exact CC0) ((go_at_call 97;refine (C2.out _ W1).mono ?_;rintro e w2 ⟨rfl,hw2⟩;have cc1:=HS.out _ hw2))
    all_goals
     go_wp2;exact ⟨⟨n+1,by omega,by go_num,P,hs.trans' hw2⟩,by simp [intOf];omega⟩
   | false=>
    have P:=P1.out (by rw [Zw9 hx hp1,hq]);have C2:Hid (∀ ww,Za wr ww->Calls prog 97 #[.slice ro L.length rc,.int .i64 x.1[0]] ww λ e w' => e=.returned (.bool false)∧Za wr w'):=by simpa only [hq] using C1
    clear P0 P1 hq hx hx0 hu hm1 A1 A2 C1;go_wp2
    go_region_held3 (λ w' => w'.cell? ⟨m,0,none⟩=some (.slice ro L.length rc)∧w'.cell? ⟨lb,off+n * 2,none⟩=some (.slice (some ⟨ab,ao', none⟩) x.1.length ac)∧w'.cell? ⟨ab,ao', none⟩=some (.int .i64 x.1[0])) (first | exact cc1 | exact CC0) ((go_at_call 97;refine (C2.out _ W1).mono ?_;rintro e w2 ⟨rfl,hw2⟩;have cc1:=HS.out _ hw2))
    all_goals
     go_wp2_with ((go_at_call 136;refine (Kg _ _ _).mono ?_;rintro e w3 ⟨v,rfl,hv,hk3⟩))
     go_ret;exact ⟨_,_,rfl,P,hv,hs.trans' (hw2.trans' hk3)⟩
  ·have hu2:Hid (Yv L R l 4 0):=hu.out.next (by omega)
   have hlt' : ¬ (n:Int)<(l.length:Int):=by omega
   clear hu hlt;go_wp2
   go_loopw [7] (λ i wr=>∃ n:Nat,n<=l.length∧i=.int .i64 (n:Int)∧Hid (Yv L R l 4 n)∧Za w wr) (λ i _=>l.length-(intOf i).toNat)
   case atStart=>exact ⟨0,Nat.zero_le _,rfl,hu2,hs⟩
   case round=>
    clear hs hu2 hlt' hnl;obtain ⟨n,hnl,rfl,hu,hs⟩:=hrel
    by_cases hlt:n<l.length
    ·obtain ⟨lb,off,rfl,hlb,hru⟩:=(hl.same hs).get hlt
     obtain ⟨x,hx0⟩:∃ x,x=l[n]:=⟨_,rfl⟩;have hxo:=hok n hlt;rw [<- hx0] at hru hxo;have hx:x=l.getD n ([],[]):=by rw [hx0];simp [List.getD,hlt]
     obtain ⟨ao,ac,bo,bc,r0,r1,A1,A2⟩:=hru;have i1:(0:Int)<=(n:Int):=by omega
     have i2:(n:Int)<(l.length:Int):=by omega
     have hm1:=h.same hs;obtain ⟨⟨hp1,hm11⟩,hp2,hm22⟩:=Yr hxo;have P0:Hid (ckB L R l 4 n=true->Yv L R l 4 (n+1)):=λ q=>hu.out.step q;have P1:Hid (ckB L R l 4 n=false->Zaw L R l 3 7 [(74,(n:Int))]):=λ q=>.inr ⟨4,n,by omega,by omega,hlt,hu.out,q,rfl⟩;have C1:=Zk2 (ac:=ac) A1.at' hm11;cases hq:decide (Zay x.1=(Zx x.1).length) with
     | true=>
      have P:=P0.out (by rw [Zw2 hx,hq]);rw [hq] at C1;clear P0 P1 hq hx hx0 hu hm1 A1 A2
      go_wp2_with ((go_at_call 190;refine C1.mono ?_;rintro e w2 ⟨rfl,hw2⟩))
      exact ⟨⟨n+1,by omega,by go_num,P,hs.trans' hw2⟩,by simp [intOf];omega⟩
     | false=>
      have P:=P1.out (by rw [Zw2 hx,hq]);rw [hq] at C1;clear P0 P1 hq hx hx0 hu hm1 A1 A2
      go_wp2_with (first | (go_at_call 136;refine (Kg _ _ _).mono ?_;rintro e w3 ⟨v,rfl,hv,hk3⟩) | (go_at_call 190;refine C1.mono ?_;rintro e w2 ⟨rfl,hw2⟩))
      go_ret;exact ⟨_,_,rfl,P,hv,hs.trans' (hw2.trans' hk3)⟩
    ·have hu2:Hid (Yv L R l 5 0):=hu.out.next (by omega)
     have hlt' : ¬ (n:Int)<(l.length:Int):=by omega
     clear hu hlt;go_wp2
     go_loopw [9] (λ i wr=>∃ n:Nat,n<=l.length∧i=.int .i64 (n:Int)∧Hid (Yv L R l 5 n)∧Za w wr) (λ i _=>l.length-(intOf i).toNat)
     case atStart=>exact ⟨0,Nat.zero_le _,rfl,hu2,hs⟩
     case round=>
      clear hs hu2 hlt' hnl;obtain ⟨n,hnl,rfl,hu,hs⟩:=hrel
      by_cases hlt:n<l.length
      ·obtain ⟨lb,off,rfl,hlb,hru⟩:=(hl.same hs).get hlt
       obtain ⟨x,hx0⟩:∃ x,x=l[n]:=⟨_,rfl⟩;have hxo:=hok n hlt;rw [<- hx0] at hru hxo;have hx:x=l.getD n ([],[]):=by rw [hx0];simp [List.getD,hlt]
       obtain ⟨ao,ac,bo,bc,r0,r1,A1,A2⟩:=hru;have i1:(0:Int)<=(n:Int):=by omega
       have i2:(n:Int)<(l.length:Int):=by omega
       have hm1:=h.same hs;obtain ⟨⟨hp1,hm11⟩,hp2,hm22⟩:=Yr hxo;have P0:Hid (ckB L R l 5 n=true->Yv L R l 5 (n+1)):=λ q=>hu.out.step q;have P1:Hid (ckB L R l 5 n=false->Zaw L R l 3 7 [(75,(n:Int))]):=λ q=>.inr ⟨5,n,by omega,by omega,hlt,hu.out,q,rfl⟩;have HS:Hid (∀ ww,Za wr ww->ww.cell? ⟨m,0,none⟩=some (.slice ro L.length rc)∧ww.cell? ⟨lb,off+n * 2,none⟩=some (.slice ao x.1.length ac)):=λ ww hk=>⟨Zb (hm1.same hk).blk 0,(hk.cell (p:=⟨lb,off+n * 2,none⟩) hlb (λ f=>f)).trans r0⟩;have CC0:=HS.out wr (Zc.refl _ _);have W1:Za wr wr.drew:=Zc.drew (Zc.refl _ _);have C1:Hid (∀ ww,Za wr ww->Calls prog 191 #[.slice ro L.length rc,.slice ao x.1.length ac] ww λ e w' => e=.returned (.bool (x.1.tail.all (λ n=>!Xe L n)))∧Za wr w'):=λ ww hk=>(Zoq (hm1.same hk).rl (A1.same hk).at' hm11).mono (λ e w' ⟨q1,q2⟩=>⟨q1,by rw [q2];exact hk⟩);cases hq:x.1.tail.all (λ n=>!Xe L n) with
       | true=>
        have P:=P0.out (by rw [Zxc hx,hq]);have C2:Hid (∀ ww,Za wr ww->Calls prog 191 #[.slice ro L.length rc,.slice ao x.1.length ac] ww λ e w' => e=.returned (.bool true)∧Za wr w'):=by simpa only [hq] using C1
        clear P0 P1 hq hx hx0 hu hm1 A1 A2 C1;go_wp2
        go_region_held3 (λ w' => w'.cell? ⟨m,0,none⟩=some (.slice ro L.length rc)∧w'.cell? ⟨lb,off+n * 2,none⟩=some (.slice ao x.1.length ac)) (first | exact cc1 | exact CC0) ((go_at_call 191;refine (C2.out _ W1).mono ?_;rintro e w2 ⟨rfl,hw2⟩;have cc1:=HS.out _ hw2))
        all_goals
         go_wp2;exact ⟨⟨n+1,by omega,by go_num,P,hs.trans' hw2⟩,by simp [intOf];omega⟩
       | false=>
        have P:=P1.out (by rw [Zxc hx,hq]);have C2:Hid (∀ ww,Za wr ww->Calls prog 191 #[.slice ro L.length rc,.slice ao x.1.length ac] ww λ e w' => e=.returned (.bool false)∧Za wr w'):=by simpa only [hq] using C1
        clear P0 P1 hq hx hx0 hu hm1 A1 A2 C1;go_wp2
        go_region_held3 (λ w' => w'.cell? ⟨m,0,none⟩=some (.slice ro L.length rc)∧w'.cell? ⟨lb,off+n * 2,none⟩=some (.slice ao x.1.length ac)) (first | exact cc1 | exact CC0) ((go_at_call 191;refine (C2.out _ W1).mono ?_;rintro e w2 ⟨rfl,hw2⟩;have cc1:=HS.out _ hw2))
        all_goals
         go_wp2_with ((go_at_call 136;refine (Kg _ _ _).mono ?_;rintro e w3 ⟨v,rfl,hv,hk3⟩))
         go_ret;exact ⟨_,_,rfl,P,hv,hs.trans' (hw2.trans' hk3)⟩
      ·have hu2:Hid (Yv L R l 6 0):=hu.out.next (by omega)
       have hlt' : ¬ (n:Int)<(l.length:Int):=by omega
       clear hu hlt;go_wp2
       go_loopw [11] (λ i wr=>∃ n:Nat,n<=l.length∧i=.int .i64 (n:Int)∧Hid (Yv L R l 6 n)∧Za w wr) (λ i _=>l.length-(intOf i).toNat)
       case atStart=>exact ⟨0,Nat.zero_le _,rfl,hu2,hs⟩
       case round=>
        clear hs hu2 hlt' hnl;obtain ⟨n,hnl,rfl,hu,hs⟩:=hrel
        by_cases hlt:n<l.length
        ·obtain ⟨lb,off,rfl,hlb,hru⟩:=(hl.same hs).get hlt
         obtain ⟨x,hx0⟩:∃ x,x=l[n]:=⟨_,rfl⟩;have hxo:=hok n hlt;rw [<- hx0] at hru hxo;have hx:x=l.getD n ([],[]):=by rw [hx0];simp [List.getD,hlt]
         obtain ⟨ao,ac,bo,bc,r0,r1,A1,A2⟩:=hru;have i1:(0:Int)<=(n:Int):=by omega
         have i2:(n:Int)<(l.length:Int):=by omega
         have hm1:=h.same hs;obtain ⟨⟨hp1,hm11⟩,hp2,hm22⟩:=Yr hxo;have P0:Hid (ckB L R l 6 n=true->Yv L R l 6 (n+1)):=λ q=>hu.out.step q;have P1:Hid (ckB L R l 6 n=false->Zaw L R l 3 7 [(76,(n:Int))]):=λ q=>.inr ⟨6,n,by omega,by omega,hlt,hu.out,q,rfl⟩;have C1:=Zud (ac:=ac) (bc:=bc) A1.at' A2.at' hm11 hm22 (λ n hn=>(Zr.1 (Ze.1 hxo.1).2.1 n hn).2) (λ n hn=>(Zr.1 (Ze.1 hxo.2).2.1 n hn).2);cases hq:x.2.all (λ n=>!Kq x.1 n) with
         | true=>
          have P:=P0.out (by rw [Zxd hx,hq]);rw [hq] at C1;clear P0 P1 hq hx hx0 hu hm1 A1 A2
          go_wp2_with ((go_at_call 192;refine C1.mono ?_;rintro e w2 ⟨rfl,hw2⟩))
          exact ⟨⟨n+1,by omega,by go_num,P,hs.trans' hw2⟩,by simp [intOf];omega⟩
         | false=>
          have P:=P1.out (by rw [Zxd hx,hq]);rw [hq] at C1;clear P0 P1 hq hx hx0 hu hm1 A1 A2
          go_wp2_with (first | (go_at_call 136;refine (Kg _ _ _).mono ?_;rintro e w3 ⟨v,rfl,hv,hk3⟩) | (go_at_call 192;refine C1.mono ?_;rintro e w2 ⟨rfl,hw2⟩))
          go_ret;exact ⟨_,_,rfl,P,hv,hs.trans' (hw2.trans' hk3)⟩
        ·have P:Hid (Zaw L R l 3 7 []):=.inl ⟨rfl,hu.out.next (by omega)⟩
         have hlt' : ¬ (n:Int)<(l.length:Int):=by omega
         clear hu hlt;go_wp2;go_ret;exact ⟨_,_,rfl,P.out,Zma _,hs⟩
end
def Y3 (L:List Sym) (J:List Int) (p q:Nat):List (Nat × Nat):=((Zl L J p).zip (Zl L J q)).reverse
def Zl1 (L:List Sym) (J:List Int):Nat->(Int->Int)->List (Nat × Nat)->Option (Option (Int->Int))
 | 0,_,_=>none
 | _+1,ld,[]=>some (some ld)
 | n+1,ld,(y,x) :: r=>
  if ld x=ld y then Zl1 L J n ld r
  else if ld x<0 then Zl1 L J n (un (ld x) (ld y) ld) r
  else if ld y<0 then Zl1 L J n (un (ld y) (ld x) ld) r
  else if at' J (ld x)≠at' J (ld y) then some none
  else Zl1 L J n (un (ld x) (ld y) ld) (Y3 L J (ld x).toNat (ld y).toNat++r)
theorem Zex {α β:Type}:∀ (l:List α) (m:List β),l.length=m.length->(l.zip m).length=l.length
 | [],m,_=>by simp
 | x :: l,[],h=>by simp at h
 | x :: l,y :: m,h=>by simp [Zex l m (by simpa using h)]
theorem Zxh {l m:List Nat} (h:l.length=m.length) (hi:i<l.length):(l.zip m)[i]? = some (l[i],m[i]'(by omega)):=by
 rw [List.getElem?_eq_getElem (by rw [Zex l m h];exact hi),List.getElem_zip]
structure NOk (L:List Sym) (J:List Int) (res:Option (Int->Int)) (k:Nat) (ld:Int->Int) (ps:List (Nat × Nat)):Prop where
 trs:Trs L J
 ok:Zcl J ld
 pairs:∀ r∈ps,r.1<J.length∧r.2<J.length
 eq:Zl1 L J k ld ps=some res
 len:ps.length+(J.length+1) * Zdu J ld<=(J.length+1) * J.length+1
theorem Zm3 (hT:Trs L J) (hp:p<J.length) (hq:q<J.length):∀ r∈Y3 L J p q,r.1<J.length∧r.2<J.length:=by
 intro r hr;unfold Y3 at hr;rw [List.mem_reverse] at hr;obtain ⟨h1,h2⟩:=List.of_mem_zip (show (r.1,r.2)∈_ from hr);exact ⟨Jb hT hp _ h1,Jb hT hq _ h2⟩
theorem J1:∀ {k p q:Nat},Zs L J k p q->k<=q-p
 | 0,p,q,h=>Nat.zero_le _
 | k+1,p,q,h=>by
  obtain ⟨h1,h2,h3⟩:=h.succ;have:=J1 h3;have:=h3.le;omega
theorem Zjl (hT:Trs L J) (hp:p<J.length) (q:Nat):(Y3 L J p q).length<=J.length:=by
 unfold Y3;rw [List.length_reverse,List.length_zip];have h1:=J1 (Yd hT hp);have h2:=(hT.lt hp).2;have h3:(Zl L J p).length=arN L (at' J p):=Zk _ _ _ _;omega
theorem NOk.nil (h:NOk L J res k ld []):res=some ld:=by
 have:=h.eq;cases k with
 | zero=>simp [Zl1] at this
 | succ k=>simp [Zl1] at this;exact this.symm
theorem NOk.step {x y:Nat} {ps:List (Nat × Nat)} (h:NOk L J res k ld ((y,x) :: ps)):∃ k', k=k' + 1 ∧
  (ld x=ld y->NOk L J res k' ld ps) ∧
  (ld x≠ld y->ld x<0->NOk L J res k' (un (ld x) (ld y) ld) ps) ∧
  (ld x≠ld y->¬ ld x<0->ld y<0->NOk L J res k' (un (ld y) (ld x) ld) ps) ∧
  (ld x≠ld y->¬ ld x<0->¬ ld y<0->at' J (ld x)≠at' J (ld y)->res=none) ∧
  (ld x≠ld y->¬ ld x<0->¬ ld y<0->at' J (ld x)=at' J (ld y)->NOk L J res k' (un (ld x) (ld y) ld) (Y3 L J (ld x).toNat (ld y).toNat++ps)):=by
 have heq:=h.eq;have hlen:=h.len;obtain ⟨t2,t1⟩:=h.pairs (y,x) (by simp);simp only at t1 t2;have px:=Zm (J:=J) (p:=x) t1;have po:=Zm (J:=J) (p:=y) t2;have hpx:=h.ok.part _ px;have hpo:=h.ok.part _ po;have hlx:=h.ok.idem _ px;have hlo:=h.ok.idem _ po;have hr:∀ r∈ps,r.1<J.length∧r.2<J.length:=λ r hr=>h.pairs r (by simp [hr]);rw [List.length_cons] at hlen;cases k with
 | zero=>simp [Zl1] at heq
 | succ k=>
  rw [Zl1] at heq;refine ⟨k,rfl,?_,?_,?_,?_,?_⟩
  ·intro h1;rw [if_pos h1] at heq
   exact ⟨h.trs,h.ok,hr,heq,by omega⟩
  ·intro h1 h2
   rw [if_neg h1,if_pos h2] at heq;have:=Nat.mul_le_mul_left (J.length+1) (Jj (J:=J) (p:=ld x) hlo h1);exact ⟨h.trs,h.ok.un hlx hlo hpo h1 (h.ok.sym _ po) (λ f=>by omega),hr,heq,by omega⟩
  ·intro h1 h2 h3
   have h1' : ld y≠ld x:=λ e=>h1 e.symm;rw [if_neg h1,if_neg h2,if_pos h3] at heq;have:=Nat.mul_le_mul_left (J.length+1) (Jj (J:=J) (p:=ld y) hlx h1');exact ⟨h.trs,h.ok.un hlo hlx hpx h1' (h.ok.sym _ px) (λ f=>by omega),hr,heq,by omega⟩
  ·intro h1 h2 h3 h4
   rw [if_neg h1,if_neg h2,if_neg h3,if_pos h4] at heq;simp at heq;exact heq.symm
  ·intro h1 h2 h3 h4
   rw [if_neg h1,if_neg h2,if_neg h3,if_neg (by simpa using h4)] at heq;obtain ⟨p,hp⟩:=Int.eq_ofNat_of_zero_le (Int.not_lt.1 h2);have hpl:(ld x).toNat<J.length:=by have:=hpx.2;omega
   have hql:(ld y).toNat<J.length:=by have:=hpo.2;omega
   have hlt:=Zc2 (J:=J) (ld:=ld) (p:=p) (q:=ld y) hlo (by rw [<- hp];exact h1) (by rw [<- hp];exact hlx) (by omega);rw [<- hp] at hlt;have h5:=Nat.mul_le_mul_left (J.length+1) (Nat.succ_le_of_lt hlt);rw [Nat.succ_eq_add_one,Nat.mul_add,Nat.mul_one] at h5;have h6:=Zjl h.trs hpl (ld y).toNat;refine ⟨h.trs,h.ok.un hlx hlo hpo h1 (h.ok.sym _ po) (λ _=>⟨by omega,h4.symm⟩),?_,heq,by rw [List.length_append];omega⟩;intro r hr'
   rcases List.mem_append.1 hr' with e | e
   ·exact Zm3 h.trs hpl hql r e
   ·exact hr r e
theorem Zut (hT:Trs L J):∀ (n:Nat) (ld:Int->Int) (ps:List (Nat × Nat)),Zcl J ld->(∀ r∈ps,r.1<J.length∧r.2<J.length)->ps.length+(J.length+1) * Zdu J ld<n->∃ r,Zl1 L J n ld ps=some r:=by
 intro n
 induction n with
 | zero=>intro ld ps _ _ h;omega
 | succ n ih=>
  intro ld ps hl hr hn;cases ps with
  | nil=>exact ⟨_,rfl⟩
  | cons r ps=>
   obtain ⟨y,x⟩:=r;have hr2:∀ r∈ps,r.1<J.length∧r.2<J.length:=λ r h=>hr r (by simp [h]);obtain ⟨t2,t1⟩:=hr (y,x) (by simp);simp only at t1 t2;rw [List.length_cons] at hn;have px:=Zm (J:=J) (p:=x) t1;have po:=Zm (J:=J) (p:=y) t2;have hpx:=hl.part _ px;have hpo:=hl.part _ po;have hlx:=hl.idem _ px;have hlo:=hl.idem _ po;rw [Zl1]
   by_cases h1:ld x=ld y
   ·rw [if_pos h1];exact ih _ _ hl hr2 (by omega)
   ·rw [if_neg h1]
    have h1' : ld y≠ld x:=λ e=>h1 e.symm
    by_cases h2:ld x<0
    ·rw [if_pos h2]
     have:=Nat.mul_le_mul_left (J.length+1) (Jj (J:=J) (p:=ld x) hlo h1);exact ih _ _ (hl.un hlx hlo hpo h1 (hl.sym _ po) (λ f=>by omega)) hr2 (by omega)
    ·rw [if_neg h2]
     by_cases h3:ld y<0
     ·rw [if_pos h3]
      have:=Nat.mul_le_mul_left (J.length+1) (Jj (J:=J) (p:=ld y) hlx h1');exact ih _ _ (hl.un hlo hlx hpx h1' (hl.sym _ px) (λ f=>by omega)) hr2 (by omega)
     ·rw [if_neg h3]
      by_cases h4:at' J (ld x)≠at' J (ld y)
      ·rw [if_pos h4];exact ⟨_,rfl⟩
      ·rw [if_neg h4]
       have h4:at' J (ld x)=at' J (ld y):=by simpa using h4
       obtain ⟨p,hp⟩:=Int.eq_ofNat_of_zero_le (Int.not_lt.1 h2);have hpl:(ld x).toNat<J.length:=by have:=hpx.2;omega
       have hql:(ld y).toNat<J.length:=by have:=hpo.2;omega
       have hlt:=Zc2 (J:=J) (ld:=ld) (p:=p) (q:=ld y) hlo (by rw [<- hp];exact h1) (by rw [<- hp];exact hlx) (by omega);rw [<- hp] at hlt;have h5:=Nat.mul_le_mul_left (J.length+1) (Nat.succ_le_of_lt hlt);rw [Nat.succ_eq_add_one,Nat.mul_add,Nat.mul_one] at h5;have h6:=Zjl hT hpl (ld y).toNat;refine ih _ _ (hl.un hlx hlo hpo h1 (hl.sym _ po) (λ _=>⟨by omega,h4.symm⟩)) (λ r hr' => ?_) (by rw [List.length_append];omega)
       rcases List.mem_append.1 hr' with e | e
       ·exact Zm3 hT hpl hql r e
       ·exact hr2 r e
def InvN (L:List Sym) (J:List Int) (m:Nat) (ld:Int->Int) (ps:List (Nat × Nat)):Prop:=∀ φ:Int->Int,Zfx J φ ld->(∀ r∈ps,φ (r.1:Nat)=φ (r.2:Nat))->φ 0=φ m∧∀ P:Nat,P<J.length->0<=at' J P->∀ i,i<arN L (at' J P)->φ (past L J i (P+1):Nat)=φ (past L J i ((ld P).toNat+1):Nat)
theorem Zv9 (h:at' J p=at' J q) (hi:i<arN L (at' J p)):(past L J i (p+1),past L J i (q+1))∈Y3 L J p q:=by
 unfold Y3;rw [List.mem_reverse];have k1:=Zab (L:=L) (J:=J) (p:=p) hi;have k2:=Zab (L:=L) (J:=J) (p:=q) (i:=i) (by rw [<- h];exact hi);have l1:(Zl L J p).length=arN L (at' J p):=Zk _ _ _ _;have l2:(Zl L J q).length=arN L (at' J q):=Zk _ _ _ _;have hl:(Zl L J p).length=(Zl L J q).length:=by rw [l1,l2,h]
 have hz:=Zxh hl (i:=i) (by omega);rw [List.getElem?_eq_getElem (by omega),Option.some.injEq] at k1;rw [List.getElem?_eq_getElem (by omega),Option.some.injEq] at k2;rw [k1,k2] at hz;exact List.mem_of_getElem? hz
theorem Zzt:∀ (n:Nat) (ld:Int->Int) (ps:List (Nat × Nat)) (ldf:Int->Int),NOk L J (some ldf) n ld ps->InvN L J m ld ps->Zcl J ldf∧InvN L J m ldf []:=by
 intro n
 induction n with
 | zero=>intro ld ps ldf h _;have:=h.eq;simp [Zl1] at this
 | succ n ih=>
  intro ld ps ldf h hI;cases ps with
  | nil=>
   have:=h.nil;simp only [Option.some.injEq] at this;rw [this];exact ⟨h.ok,hI⟩
  | cons r ps=>
   obtain ⟨y,x⟩:=r;obtain ⟨k', hk', S1,S2,S3,S4,S5⟩:=h.step;obtain ⟨t2,t1⟩:=h.pairs (y,x) (by simp);simp only at t1 t2;have px:=Zm (J:=J) (p:=x) t1;have po:=Zm (J:=J) (p:=y) t2;have hpx:=h.ok.part _ px;have hpo:=h.ok.part _ po;have hlx:=h.ok.idem _ px;have hlo:=h.ok.idem _ po;obtain rfl:k' = n:=by omega
   have rest:∀ (φ:Int->Int),Zfx J φ ld->φ (ld x)=φ (ld y)->(∀ r∈ps,φ (r.1:Nat)=φ (r.2:Nat))->∀ r∈(y,x) :: ps,φ (r.1:Nat)=φ (r.2:Nat):=by
    intro φ hc he hp r hr
    rcases List.mem_cons.1 hr with e | e
    ·rw [e]
     simp only;rw [<- hc x px,<- hc y po,he]
    ·exact hp r e
   by_cases h1:ld x=ld y
   ·exact ih _ _ _ (S1 h1) (λ φ hc hp=>hI φ hc (rest φ hc (by rw [h1]) hp))
   ·by_cases h2:ld x<0
    ·refine ih _ _ _ (S2 h1 h2) (λ φ hc hp=>?_)
     obtain ⟨e,hc'⟩:=Jv h.ok hpx hlx hc;obtain ⟨a1,a2⟩:=hI φ hc' (rest φ hc' e hp);refine ⟨a1,λ P hP hs i hi=>?_⟩;have hl:=(h.ok.like P (Zm hP) (by omega) hs).1;have:un (ld x) (ld y) ld P=ld P:=by unfold un;rw [if_neg (by omega)]
     rw [this];exact a2 P hP hs i hi
    ·by_cases h3:ld y<0
     ·refine ih _ _ _ (S3 h1 h2 h3) (λ φ hc hp=>?_)
      obtain ⟨e,hc'⟩:=Jv h.ok hpo hlo hc;obtain ⟨a1,a2⟩:=hI φ hc' (rest φ hc' e.symm hp);refine ⟨a1,λ P hP hs i hi=>?_⟩;have hl:=(h.ok.like P (Zm hP) (by omega) hs).1;have:un (ld y) (ld x) ld P=ld P:=by unfold un;rw [if_neg (by omega)]
      rw [this];exact a2 P hP hs i hi
     ·by_cases h4:at' J (ld x)=at' J (ld y)
      ·refine ih _ _ _ (S5 h1 h2 h3 h4) (λ φ hc hp=>?_)
       obtain ⟨e,hc'⟩:=Jv h.ok hpx hlx hc;obtain ⟨a1,a2⟩:=hI φ hc' (rest φ hc' e (λ r hr=>hp r (by simp [hr])));refine ⟨a1,λ P hP hs i hi=>?_⟩
       by_cases f:ld P=ld x
       ·have e1:un (ld x) (ld y) ld P=ld y:=by unfold un;rw [if_pos f]
        have h5:=a2 P hP hs i hi;rw [f] at h5;rw [h5,e1];have hl:=(h.ok.like P (Zm hP) (by omega) hs);rw [f] at hl;have c1:(((ld x).toNat:Nat):Int)=ld x:=by omega
        have c2:(((ld y).toNat:Nat):Int)=ld y:=by omega
        exact hp (past L J i ((ld x).toNat+1),past L J i ((ld y).toNat+1)) (List.mem_append.2 (.inl (Zv9 (by rw [c1,c2];exact h4) (by rw [c1,hl.2];exact hi))))
       ·have e1:un (ld x) (ld y) ld P=ld P:=by unfold un;rw [if_neg f]
        rw [e1];exact a2 P hP hs i hi
      ·have:=S4 h1 h2 h3 h4;cases this
theorem Zyo {P:Nat}:∀ (n:Nat) (ld:Int->Int) (ps:List (Nat × Nat)) (ldf:Int->Int),NOk L J (some ldf) n ld ps->ld P=ld (at' J P)->ldf P=ldf (at' J P):=by
 have hun:∀ (p q:Int) (ld:Int->Int),ld P=ld (at' J P)->un p q ld P=un p q ld (at' J P):=λ p q ld e=>by unfold un;rw [e]
 intro n
 induction n with
 | zero=>intro ld ps ldf h _;have:=h.eq;simp [Zl1] at this
 | succ n ih=>
  intro ld ps ldf h hI;cases ps with
  | nil=>
   have:=h.nil;simp only [Option.some.injEq] at this;rw [this];exact hI
  | cons r ps=>
   obtain ⟨y,x⟩:=r;obtain ⟨k', hk', S1,S2,S3,S4,S5⟩:=h.step;obtain rfl:k' = n:=by omega
   by_cases h1:ld x=ld y
   ·exact ih _ _ _ (S1 h1) hI
   ·by_cases h2:ld x<0
    ·exact ih _ _ _ (S2 h1 h2) (hun _ _ _ hI)
    ·by_cases h3:ld y<0
     ·exact ih _ _ _ (S3 h1 h2 h3) (hun _ _ _ hI)
     ·by_cases h4:at' J (ld x)=at' J (ld y)
      ·exact ih _ _ _ (S5 h1 h2 h3 h4) (hun _ _ _ hI)
      ·have:=S4 h1 h2 h3 h4;cases this
theorem Zpm {ldf:Int->Int} (h:NOk L J (some ldf) n (ld0 J) [(0,m)]):J3 L J m ldf:=by
 have st:InvN L J m (ld0 J) [(0,m)]:=by
  intro φ hc hp;refine ⟨hp (0,m) (by simp),λ P hP hs i hi=>?_⟩;have:ld0 J (P:Int)=P:=by unfold ld0;rw [if_neg (by omega)]
  rw [this,Int.toNat_natCast]
 obtain ⟨hl,hI⟩:=Zzt _ _ _ _ h st;obtain ⟨a1,a2⟩:=hI ldf (λ x hx=>hl.idem x hx) (by simp);refine ⟨h.trs,hl,a1,a2,λ P hP hs=>?_⟩;refine Zyo _ _ _ _ h ?_;have e1:ld0 J (P:Int)=at' J P:=by unfold ld0;rw [if_pos ⟨by omega,hs⟩]
 have e2:ld0 J (at' J P)=at' J P:=by unfold ld0;rw [if_neg (by omega)]
 rw [e1,e2]
theorem Zqu {X:Type} {val:Int->X} (hin:Inj L J val):∀ (n:Nat) (ld:Int->Int) (ps:List (Nat × Nat)) (res:Option (Int->Int)),NOk L J res n ld ps->(∀ x,Z0 J x->val (ld x)=val x)->(∀ r∈ps,val (r.1:Nat)=val (r.2:Nat))->∃ ldf,res=some ldf∧∀ x,Z0 J x->val (ldf x)=val x:=by
 intro n
 induction n with
 | zero=>intro ld ps res h;have:=h.eq;simp [Zl1] at this
 | succ n ih=>
  intro ld ps res h hv hp;cases ps with
  | nil=>exact ⟨ld,h.nil,hv⟩
  | cons r ps=>
   obtain ⟨y,x⟩:=r;have hp2:∀ r∈ps,val (r.1:Nat)=val (r.2:Nat):=λ r hr=>hp r (by simp [hr]);obtain ⟨k', hk', S1,S2,S3,S4,S5⟩:=h.step;obtain ⟨t2,t1⟩:=h.pairs (y,x) (by simp);simp only at t1 t2;have px:=Zm (J:=J) (p:=x) t1;have po:=Zm (J:=J) (p:=y) t2;have hpx:=h.ok.part _ px;have hpo:=h.ok.part _ po;obtain rfl:k' = n:=by omega
   have hxo:val y=val x:=hp (y,x) (by simp);have hpp:val (ld x)=val (ld y):=by rw [hv x px,hv y po,hxo]
   have hun:∀ p q:Int,val p=val q->∀ x,Z0 J x->val (un p q ld x)=val x:=by
    intro p q e x hx;unfold un;split
    ·rename_i f;rw [<- e,<- f];exact hv x hx
    ·exact hv x hx
   by_cases h1:ld x=ld y
   ·exact ih _ _ _ (S1 h1) hv hp2
   ·by_cases h2:ld x<0
    ·exact ih _ _ _ (S2 h1 h2) (hun _ _ hpp) hp2
    ·by_cases h3:ld y<0
     ·exact ih _ _ _ (S3 h1 h2 h3) (hun _ _ hpp.symm) hp2
     ·have hpl:(ld x).toNat<J.length:=by have:=hpx.2;omega
      have hql:(ld y).toNat<J.length:=by have:=hpo.2;omega
      have c1:(((ld x).toNat:Nat):Int)=ld x:=by omega
      have c2:(((ld y).toNat:Nat):Int)=ld y:=by omega
      have hh:=hin (ld x).toNat (ld y).toNat hpl hql (by rw [c1];exact h.ok.sym x px (by omega)) (by rw [c2];exact h.ok.sym y po (by omega)) (by rw [c1,c2];exact hpp);have hh1:at' J (ld x)=at' J (ld y):=by have:=hh.1;rwa [c1,c2] at this
      refine ih _ _ _ (S5 h1 h2 h3 hh1) (hun _ _ hpp) (λ r hr=>?_)
      rcases List.mem_append.1 hr with e | e
      ·unfold Y3 at e
       rw [List.mem_reverse] at e;obtain ⟨i,hi,he⟩:=List.getElem_of_mem e;rw [List.getElem_zip] at he;have l1:(Zl L J (ld x).toNat).length=arN L (at' J ((ld x).toNat:Nat)):=Zk _ _ _ _;rw [List.length_zip] at hi;have hi1:i<arN L (at' J ((ld x).toNat:Nat)):=by omega
       have k1:=Zab (L:=L) (J:=J) (p:=(ld x).toNat) hi1;have k2:=Zab (L:=L) (J:=J) (p:=(ld y).toNat) (i:=i) (by rw [c2,<- hh1,<- c1];exact hi1);rw [List.getElem?_eq_getElem (by omega),Option.some.injEq] at k1;rw [List.getElem?_eq_getElem (by omega),Option.some.injEq] at k2;rw [k1,k2] at he;rw [<- he];exact hh.2 i hi1
      ·exact hp2 r e
end Go.Proofs.YtmjgnfkbnofjoaaGreatDoor
