import Derived.WalkKit
import Derived.Test.YtjahpnbijefncaaGreatCC21
import Derived.Sort.CutIn
import Derived.Maps.OwnIn
namespace Go.Proofs.YtjahpnbijefncaaGreat
set_option maxRecDepth 100000
set_option linter.unusedVariables false
set_option maxHeartbeats 32000000
section
open Go.RowKit Go.Shelf
attribute [local go_sem] Oper.semAt_some
theorem Zhz {w:World} {bs b bt:Nat} {L:List Sym} {R:List Ru} {lv:Value} {vs:List Value} (hsg:Sg w.heap.size w bs L) (hst:Kd w b bt L R lv vs) :
  Calls Tryz.prog 51 #[.pointer (some ⟨bs,0,none⟩),.pointer (some ⟨b,0,none⟩)] w λ e w' => ∃ ro rc cs,e=.returned (.slice ro R.length rc)∧w'.ownsRow w.heap.size 62 1 (.slice ro R.length rc) R.length cs∧RtC w.heap.size w' cs (Zj L R)∧Za w w' := by
 have hFn:∀ k,Fence.wide.fn k:=λ _=>trivial;have hle:=hst.le;refine (callsIn_wide (n:=9)).1 ?_;refine callsIn_of_wp_marks Tryz.func51 rfl trivial ?_ rfl;simp only [Tryz.ntmps51,List.size_toArray,List.length_cons,List.length_nil,Nat.reduceAdd,Nat.reduceSub,Array.replicate_succ,Array.replicate_zero,List.push_toArray,List.append_toArray,List.nil_append,List.cons_append]
 gi_wp2_with (gi_at_call 99;refine (Zr2 Fence.wide _ trivial rfl _ _).mono ?_;rintro e w' ⟨rfl,rfl⟩)
 obtain ⟨W0,hW0⟩:∃ W0,W0=((w.alloc (.cells #[.pointer (some ⟨bs,0,none⟩)] 25)).alloc (.cells #[.slice none 0 0] 49)).alloc (.cells #[.pointer (some ⟨b,0,none⟩)] 26):=⟨_,rfl⟩;have K0:Za w W0:=by rw [hW0];exact (((Zc.refl _ w).alloc _).alloc _).alloc _
 have z0:W0.heap.size=w.heap.size+3:=by rw [hW0];simp
 have b0:W0.heap[w.heap.size]? = some (.cells #[.pointer (some ⟨bs,0,none⟩)] 25 (0,0)):=by
  rw [hW0,heap_alloc_old _ _ (by simp;omega)];exact heap_alloc2_old _ _ _
 have b1:W0.heap[w.heap.size+1]? = some (.cells #[.slice none 0 0] 49 (0,0)):=by
  rw [hW0,heap_alloc_old _ _ (by simp)];exact Zp _ _ _
 have b2:W0.cell? ⟨w.heap.size+1+1,0,none⟩=some (.pointer (some ⟨b,0,none⟩)):=by
  have:=Zp (w.alloc (.cells #[.pointer (some ⟨bs,0,none⟩)] 25)) (.cells #[.slice none 0 0] 49) (.cells #[.pointer (some ⟨b,0,none⟩)] 26);simp only [World.size_alloc] at this;rw [<- hW0] at this;exact Zb this 0
 rw [<- hW0];clear hW0;have SG:Hid (∀ X,Za w X->Sg X.heap.size X bs L):=λ X hk=>Zcy (hsg.same hk) hk.size;have OK:Hid (∀ k (h:k<R.length),((0<R[k].1.length∧R[k].1.length<=2000)∧0<R[k].2.length∧R[k].2.length<=2000)):=λ k h=>Xv (hst.ok _ (List.getElem_mem h))
 refine Zle rfl (by omega) (gf:=132) (lb:=#[.pointer (some ⟨w.heap.size+1+1,0,none⟩)]) rfl trivial (enters_of Tryz.func132 (by kernel_rfl) rfl) (B:=w.heap.size) (by omega) (Zj0 hst K0 b2 (by omega)) (λ k vs W h=>by obtain ⟨_,_,_,_,_,rfl,_⟩:=h;rfl)
  (λ k W=>RgJ L R w bs k W) (λ k X Y h hk=>h.up hk) (λ k X l o o' h hl ho hw=>h.put hl ho (by omega)) ⟨K0,b0,.slice none 0 0,[],b1,World.ownsRow_nil _ _ _ _,by simpa [Zj] using RtC.nil _ _⟩ ?round ?done
 case done=>
  rintro D W hD hj hK;obtain ⟨j1,j2,v,cs,j3,j4,j5⟩:=hj.put (o' := .deferred none) hK rfl (by omega);rw [List.take_of_length_le (Nat.le_refl _)] at j5;obtain ⟨ro,rc,rfl⟩:=Zf j4
  have c3:W.cell? ⟨w.heap.size+1,0,none⟩=some (.slice ro R.length rc):=by
   have:=(World.putObj_heap_other (w:=W) (r:=D) (o:=.deferred none) (k:=w.heap.size+1) (by omega)).symm.trans j3;exact Zb this 0
  have HF:Hid _:=And.intro j4 (And.intro j5 j1);clear j1 j2 j3 j4 j5 hj
  gi_wp2_with fail
  refine ⟨by simp,.inl ⟨_,_,rfl,run_takeDeferred hK,?_⟩⟩;exact ⟨_,results_tmp rfl _ _ _,ro,rc,cs,rfl,HF.out⟩
 case round=>
  rintro l k vs W hk hl hlW hj ⟨hk', g,c,g', c', rfl,t1,t2⟩;obtain ⟨Wa,hWa⟩:∃ Wa,Wa=W.alloc (.cells #[.slice (some ⟨g,0,none⟩) R[k].1.length c,.slice (some ⟨g', 0,none⟩) R[k].2.length c'] 68):=⟨_,rfl⟩;have ka:Za W Wa:=by rw [hWa];exact (Zc.refl _ _).alloc _
  have bx:Wa.heap[W.heap.size]? = some (.cells #[.slice (some ⟨g,0,none⟩) R[k].1.length c,.slice (some ⟨g', 0,none⟩) R[k].2.length c'] 68 (0,0)):=by rw [hWa];exact heap_alloc_new _ _
  gi_wp2_with fail
  rw [<- hWa];clear hWa;refine ⟨Rnd.same ka (by omega),λ o o' ho hoc hoc' => ?_⟩;have hpk:Zc (λ q=>q=l) Wa (Wa.putObj l o'):=Kz
  have no:∀ q,(λ q=>q=l) q->∀ cur,Wa.heap[q]? ≠ some (.cells cur 3 (0,0)):=λ q e cur hc=>by
   have e' : q=l:=e;rw [e', ho] at hc;cases hc;cases hoc
  have hjb:=(hj.up ka).put (o' := o') ho hoc (by omega);have t1b:=(t1.same ka).kept hpk no;have t2b:=(t2.same ka).kept hpk no;have bxb:=Xt (o' := o') ho hoc bx rfl;have lob:(Wa.putObj l o').heap[l]? = some o' := World.putObj_heap_same (Zi ho);obtain ⟨Wb,hWb⟩:∃ Wb,Wb=Wa.putObj l o' := ⟨_,rfl⟩;rw [<- hWb] at hjb t1b t2b bxb lob ⊢;have hzb:W0.heap.size<=Wb.heap.size:=by have:=Zi lob;omega
  clear hWb hpk no ho t1 t2 bx hj;obtain ⟨⟨p1,m1⟩,p2,m2⟩:=OK.out k hk';obtain ⟨N,hN⟩:∃ N,N=R[k].2.length:=⟨_,rfl⟩
  obtain ⟨Z,hZs,hmk⟩:∃ Z:Array Value,Z.size=N * 2∧∀ w:World,(Instr.makeSlice 62 (.int .i64 (N:Int)) (.int .i64 (N:Int))).run Tryz.prog w=.ok (.slice (some ⟨w.heap.size,0,none⟩) N N) (w.alloc (.cells Z 77)):=by
   obtain ⟨i,hi,hz0,hz1,hz2⟩:=info_parts Zia;refine ⟨madeCells (Value.agg #[.int .i64 0,.slice none 0 0]).cells (N * 2),size_madeCells _ _,λ w=>?_⟩;have:=run_make w 62 77 i _ Tryz.underlying62 hi hz0 .i64 .i64 (N:Int) (N:Int) (by omega) (by omega) (by rw [hz2];omega) (by omega)
   simpa [hz1] using this
  have y0:=Zb bxb 0;have y1:=Zb bxb 1;simp only [List.getElem?_toArray,List.getElem?_cons_zero,List.getElem?_cons_succ] at y0 y1;rw [<- hN] at y1 p2 m2;have HN:Hid (N=R[k].2.length):=hN;have G0:Wb.heap.size=Wb.heap.size:=rfl;obtain ⟨Wc,hWc⟩:∃ Wc,Wc=Wb.alloc (.cells Z 77):=⟨_,rfl⟩;have kc:Za Wb Wc:=by rw [hWc];exact (Zc.refl _ _).alloc _
  obtain ⟨gp,hgp⟩:∃ gp,gp=Wb.heap.size:=⟨_,rfl⟩;have bp:Wc.heap[gp]? = some (.cells Z 77 (0,0)):=by rw [hWc,hgp];exact heap_alloc_new _ _
  have hgw:w.heap.size<=gp:=by omega
  have INV0:Hid (Za Wb Wc∧PtC w.heap.size Wc gp 0 (Yf L R[k])):=⟨kc,Z,bp,by rw [hZs,HN.out];simp [Yf],λ i hi h0=>by omega⟩
  have BXX:Hid (∀ X,Za Wb X->X.cell? ⟨W.heap.size,0,none⟩=some (.slice (some ⟨g,0,none⟩) R[k].1.length c)∧X.cell? ⟨W.heap.size,1,none⟩=some (.slice (some ⟨g', 0,none⟩) N c')∧X.cell? ⟨w.heap.size,0,none⟩=some (.pointer (some ⟨bs,0,none⟩))∧Vo X g c R[k].1∧Vo X g' c' R[k].2∧RgJ L R w bs k X):=λ X hx=>by
   have h1:=hx.at0 bxb;have c1:=Zb h1 1;simp only [List.getElem?_toArray,List.getElem?_cons_zero,List.getElem?_cons_succ] at c1;rw [<- HN.out] at c1;exact ⟨Zb h1 0,c1,Zb (hx.at0 hjb.bx) 0,t1b.same hx,t2b.same hx,hjb.up hx⟩
  have HX:Hid (∀ X i (hi:i<N),Za Wb X->X.cell? ⟨g', i,none⟩=some (.int .i64 (R[k].2[i]'(by rw [<- HN.out];exact hi)))):=λ X i hi hx=>by
   obtain ⟨_,_,_,_,h5,_⟩:=BXX.out X hx;have hi' : i<R[k].2.length:=by rw [<- HN.out];exact hi
   have h6:=h5.cells (g:=g') rfl i (.int .i64 R[k].2[i]) (Kj hi');rw [Xq] at h6
   simpa using h6
  have CPT:Hid (∀ X (x:Int),Za Wb X->Calls Tryz.prog 100 #[.pointer (some ⟨bs,0,none⟩),.slice (some ⟨g,0,none⟩) R[k].1.length c,.int .i64 x] X λ e Y=>∃ so sc,e=.returned (.agg #[.int .i64 (Xn L R[k].1 x).1,.slice so (Xn L R[k].1 x).2.length sc])∧Hid (Xx Y so (Xn L R[k].1 x).2 sc∧∀ a,so=some a->X.heap.size<=a.block)∧Za X Y):=λ X x hx=>by
   obtain ⟨_,_,_,h4,_,h6⟩:=BXX.out X hx;obtain ⟨ao,ac,e1,i1,i2,_⟩:=h4.ints;simp only [Value.slice.injEq,true_and] at e1;obtain ⟨rfl,rfl⟩:=e1;refine (Zno (SG.out X h6.same) i1 m1 i2 x).mono ?_;rintro e Y ⟨so,sc,rfl,hr,hk⟩
   have hlen:(Xn L R[k].1 x).2.length<=2000:=by
    unfold Xn;split
    ·simp
    ·exact Zit L _ _ m1
   obtain ⟨ao,ac,e2,q1,q2⟩:=hr.arg (by omega);simp only [Value.slice.injEq,true_and] at e2;obtain ⟨rfl,rfl⟩:=e2;exact ⟨so,sc,rfl,⟨q1,q2⟩,hk⟩
  clear hN hZs kc bp OK SG hsg hst;have HGP:Hid (gp=Wb.heap.size):=hgp;have HWC:Hid (Wc=Wb.alloc (.cells Z 77)):=hWc;clear hgp hWc;have y1c:(Wb.alloc (.cells Z 77)).cell? ⟨W.heap.size,1,none⟩=some (.slice (some ⟨g', 0,none⟩) N c'):=Xh y1 _
  gi_wp2_with fail
  rw [<- HWC.out,<- HGP.out];clear HWC hmk y1c;have NW:(N:Int)<=2000:=by omega
  gi_loopw [22] (λ s22 wr=>∃ i:Nat,i<=N∧s22=.int .i64 (i:Int)∧Za Wb wr∧PtC w.heap.size wr gp i (Yf L R[k])) (λ s22 _=>N-(intOf s22).toNat)
  case atStart=>exact ⟨0,Nat.zero_le _,rfl,INV0.out⟩
  case round=>
   clear INV0 y0 y1;obtain ⟨i,hi,rfl,hs,hP⟩:=hrel;obtain ⟨y0,y1,y2, -, -, -⟩:=BXX.out wr hs
   by_cases hlt:i<N
   ·have cx:=HX.out wr i hlt hs
    have hiQ:i<(Yf L R[k]).length:=by rw [HN.out] at hlt;simpa [Yf] using hlt
    have eQ:(Yf L R[k])[i]=Xn L R[k].1 (R[k].2[i]'(by rw [<- HN.out];exact hlt)):=by simp [Yf]
    generalize R[k].2[i]'(by rw [<- HN.out];exact hlt)=x at *;have C:=CPT.out wr x hs
    have NX:Hid (∀ Y so sc,Za wr Y->(Xx Y so (Xn L R[k].1 x).2 sc∧∀ a,so=some a->wr.heap.size<=a.block)->(∃ o1 o2,Y.cell? ⟨gp,i * 2,none⟩=some o1∧Y.cell? ⟨gp,i * 2+1,none⟩=some o2)∧Y.frozen? ⟨gp,i * 2,none⟩=false∧Y.frozen? ⟨gp,i * 2+1,none⟩=false∧Za Wb ((Y.setCell ⟨gp,i * 2,none⟩ (.int .i64 (Xn L R[k].1 x).1)).setCell ⟨gp,i * 2+1,none⟩ (.slice so (Xn L R[k].1 x).2.length sc))∧PtC w.heap.size ((Y.setCell ⟨gp,i * 2,none⟩ (.int .i64 (Xn L R[k].1 x).1)).setCell ⟨gp,i * 2+1,none⟩ (.slice so (Xn L R[k].1 x).2.length sc)) gp (i+1) (Yf L R[k])):=λ Y so sc hY ha=>by
     have hwz:=hs.size;rw [<- eQ] at ha ⊢;obtain ⟨q1,q2,q3,q4⟩:=(hP.same hY).put hiQ ha.1 (λ a e=>by have:=ha.2 a e;have:=HGP.out;omega);refine ⟨q2,q3,q4,?_,q1⟩;have hge:Wb.heap.size<=gp:=by rw [HGP.out];exact Nat.le_refl _
     exact Za.own (Za.own (hs.trans' hY) hge _) hge _
    generalize (Xn L R[k].1 x).1=zs at *;generalize (Xn L R[k].1 x).2=zp at *;have i1:(0:Int)<=(i:Int):=by omega
    have i2:(i:Int)<(N:Int):=by omega
    clear hP eQ HX CPT BXX
    gi_wp2_with (gi_at_call 100;refine (CallsIn.inRound l (callsIn_wide.2 C)).mono ?_;rintro e w2 ⟨so,sc,rfl,ha,k2⟩;obtain ⟨⟨o1,o2,n1,n2⟩,n3,n4,n5,n6⟩:=NX.out w2 so sc k2 ha.out)
    go_roundw
    case rel=>exact ⟨i+1,by omega,by go_num,n5,n6⟩
    case measure=>simp [intOf];omega
   ·obtain rfl:i=N:=by omega
    obtain ⟨-, -, -, -, -,j1,j2,v,cs,j3,j4,j5⟩:=BXX.out wr hs;have hQN:(Yf L R[k]).length=i:=by rw [HN.out];simp [Yf]
    have c3:=Zb j3 0;simp only [List.getElem?_toArray,List.getElem?_cons_zero] at c3;obtain ⟨ro,rc,rfl⟩:=Zf j4;obtain ⟨i0,hi0,hz0,hz1,hz2⟩:=info_parts Zd2;have c3a:(wr.alloc (.cells #[.slice (some ⟨gp,0,none⟩) i i] 62)).cell? ⟨w.heap.size+1,0,none⟩=some (.slice ro k rc):=Xh c3 _;have b1:k+1<=maxLen:=by unfold maxLen;omega
    have b2:(k+1) * 24<=140737488355328:=by omega
    have b3:w.heap.size<=(wr.alloc (.cells #[.slice (some ⟨gp,0,none⟩) i i] 62)).heap.size:=by have:=j1.size;simp;omega
    have MORE:Hid (∀ w1 v', w1.ownsRow w.heap.size 62 1 v' (k+1) (cs ++ [.slice (some ⟨gp,0,none⟩) i i])->Zc (λ q=>(Value.slice ro k rc).ownBlock=some q) wr w1->(w1.cell? ⟨w.heap.size+1,0,none⟩=some (.slice ro k rc)∧w1.frozen? ⟨w.heap.size+1,0,none⟩=false)∧RgJ L R w bs (k+1) (w1.setCell ⟨w.heap.size+1,0,none⟩ v')∧Rnd W0.heap.size w.heap.size Wb (w1.setCell ⟨w.heap.size+1,0,none⟩ v')):=λ w1 v' h1 h2=>by
     rw [<- hQN] at hP h1;obtain ⟨q1,q2,q3⟩:=RgJ.more (D:=W0.heap.size) j1 j2 j3 j4 j5 hk' hP hgw h1 h2;exact ⟨⟨Zb q1 0,Zd q1 0⟩,q2,(Rnd.same hs (by omega)).trans q3⟩
    have hj4:Hid _:=j4;clear hP HX CPT BXX j1 j2 j3 j5
    gi_wp2_with (gi_at_builtin;refine wpListIn_append_own _ rfl _ _ 49 rfl w.heap.size 62 i0 (.slice none 0 0) 1 24 Tryz.underlying49 hi0 hz0 hz1 hz2 rfl (by decide) (.slice ro k rc) k cs rfl (World.ownsRow.alloc hj4.out _) ⟨wr.heap.size,0,none⟩ 1 1 [.slice (some ⟨gp,0,none⟩) i i] rfl rfl (cell_one_new _ _ _) (by simp [Value.oneCell']) b1 b2 b3 ?_;intro v' w1 hown' hgrow _;obtain ⟨g9,cap9,rfl⟩:=ownsRow_succ hown'; obtain ⟨⟨m1', m2'⟩,m3,m4⟩:=MORE.out w1 _ hown' (Zc.grown (Zc.alloc (Zc.refl _ wr) _) hgrow (λ _ e _=>e)))
    rw [z0] at m4;exact m4
def Zfs (L:List Sym) (R:List Ru) (w:World) (e:Ending) (w' : World):Prop:=
 ∃ io ic po pc eo ec ro rc cs,e=.returned (.tuple #[.agg #[.slice io (Zk L R L.length).1.1.length ic,.slice po (Zk L R L.length).1.2.length pc,.slice eo (Zk L R L.length).2.length ec,.slice ro R.length rc],.nilIface])∧Lay (λ q=>q<w.heap.size) w' (.slice io (Zk L R L.length).1.1.length ic) (.slice po (Zk L R L.length).1.2.length pc) (Zk L R L.length).1∧Row w.heap.size w' (.slice eo (Zk L R L.length).2.length ec) (Zk L R L.length).2∧w'.ownsRow w.heap.size 62 1 (.slice ro R.length rc) R.length cs∧RtC w.heap.size w' cs (Zj L R)∧Za w w'
theorem Zad {w3:World} {n:Nat} {a0 a1 a2 a3:Value} {t:TypeId} (hb:w3.heap[n]? = some (.cells #[a0,a1,a2,a3] t (0,0))) (x0 x1 x2 x3:Value):((((w3.setCell ⟨n,0,none⟩ x0).setCell ⟨n,1,none⟩ x1).setCell ⟨n,2,none⟩ x2).setCell ⟨n,3,none⟩ x3).heap[n]? = some (.cells #[x0,x1,x2,x3] t (0,0))∧Zc (λ q=>q=n) w3 ((((w3.setCell ⟨n,0,none⟩ x0).setCell ⟨n,1,none⟩ x1).setCell ⟨n,2,none⟩ x2).setCell ⟨n,3,none⟩ x3):=by
 have s3:=Zs (Zs (Zs (Zs hb 0 x0) 1 x1) 2 x2) 3 x3;have k1:=Zt w3 n 0 x0;have k2:=Zc.trans k1 (Zt _ n 1 x1) (λ _ _ e=>e);have k3:=Zc.trans k2 (Zt _ n 2 x2) (λ _ _ e=>e);have k4:=Zc.trans k3 (Zt _ n 3 x3) (λ _ _ e=>e);exact ⟨s3,k4⟩
theorem PtC.low {base base' : Nat} {W:World} {g k:Nat} {Q:List (Int × List Int)} (h:PtC base W g k Q) (hb:base' <= base):PtC base' W g k Q:=by
 obtain ⟨cur,h1,h2,h3⟩:=h;refine ⟨cur,h1,h2,λ i hi hik=>?_⟩;obtain ⟨ao,ac,a,b,c,d⟩:=h3 i hi hik;exact ⟨ao,ac,a,b,c,λ x e=>Nat.le_trans hb (d x e)⟩
theorem RtC.low {base base' : Nat} {W:World} {cs:List Value} {Q:List (List (Int × List Int))} (h:RtC base W cs Q) (hb:base' <= base):RtC base' W cs Q:=
 ⟨h.1,λ i hi=>by
  obtain ⟨g,gc,a,b,c⟩:=h.2 i hi
  exact ⟨g,gc,a,Nat.le_trans hb b,c.low hb⟩⟩
theorem Zln (b:Nat) (w:World):(binOp .eql 26 (.pointer (some ⟨b,0,none⟩)) (.pointer none)).run Tryz.prog w=.ok (.bool false) w:=by kernel_rfl
theorem Zl5 (w:World):(binOp .neq 37 .nilIface .nilIface).run Tryz.prog w=.ok (.bool false) w:=by kernel_rfl
theorem Zff {w:World} {b bs:Nat} {L:List Sym} {R:List Ru} {lv:Value} {vs:List Value} (h:Kd w b bs L R lv vs) (hall:∀ k,k<L.length->Y7 L (k:Int)=true->∃ t,X5 L R k=.ok t) :
  Calls Tryz.prog 14 #[.pointer (some ⟨b,0,none⟩)] w (Zfs L R w):=by
 have hFn:∀ k,Fence.wide.fn k:=λ _=>trivial;have hpn:=Zln;have hen:=Zl5;have hle:=h.le;have hok:=h.ok;have hArs:=h.sig.2;have hL64:L.length<=64:=by obtain ⟨⟨sv,mr,hs,_⟩,_⟩:=h.sig;exact hs.len
 obtain ⟨W1,hW1⟩:∃ W1,W1=((w.alloc (.cells #[.pointer (some ⟨b,0,none⟩)] 26)).alloc (.cells #[.slice none 0 0,.slice none 0 0,.slice none 0 0,.slice none 0 0] 51)).alloc (.cells #[.nilIface] 37):=⟨_,rfl⟩;have KW:Za w W1:=by rw [hW1];exact (((Zc.refl _ w).alloc _).alloc _).alloc _
 have ez:W1.heap.size=w.heap.size+1+1+1:=by rw [hW1];simp
 have BK:Hid (∀ ww,Za W1 ww->ww.heap[w.heap.size]? = some (.cells #[.pointer (some ⟨b,0,none⟩)] 26 (0,0))∧ww.heap[w.heap.size+1]? = some (.cells #[.slice none 0 0,.slice none 0 0,.slice none 0 0,.slice none 0 0] 51 (0,0))∧ww.heap[w.heap.size+1+1]? = some (.cells #[.nilIface] 37 (0,0))):=λ ww hk=>by
  have k1:Za (w.alloc (.cells #[.pointer (some ⟨b,0,none⟩)] 26)) W1:=by rw [hW1];exact ((Zc.refl _ _).alloc _).alloc _
  have k2:Za ((w.alloc (.cells #[.pointer (some ⟨b,0,none⟩)] 26)).alloc (.cells #[.slice none 0 0,.slice none 0 0,.slice none 0 0,.slice none 0 0] 51)) W1:=by rw [hW1];exact (Zc.refl _ _).alloc _
  have h3:=Zp (w.alloc (.cells #[.pointer (some ⟨b,0,none⟩)] 26)) (.cells #[.slice none 0 0,.slice none 0 0,.slice none 0 0,.slice none 0 0] 51) (.cells #[.nilIface] 37);rw [World.size_alloc] at h3;exact ⟨hk.at0 (k1.at0 (heap_alloc_new w _)),hk.at0 (k2.at0 (Zp _ _ _)),hk.at0 (by rw [hW1];exact h3)⟩
 have r0:W1.cell? ⟨w.heap.size,0,none⟩=some (.pointer (some ⟨b,0,none⟩)):=Zb (BK.out W1 (Zc.refl _ _)).1 0;have CS:=(callsIn_wide (n:=8)).2 (Zg3 (h.same KW));refine (callsIn_wide (n:=9)).1 ?_;refine callsIn_of_wp_marks Tryz.func14 rfl trivial ?_ rfl;simp only [Tryz.ntmps14,List.size_toArray,List.length_cons,List.length_nil,Nat.reduceAdd,Nat.reduceSub,Array.replicate_succ,Array.replicate_zero,List.push_toArray,List.append_toArray,List.nil_append,List.cons_append]
 gi_upto_region 1 with fail
 rw [<- hW1];clear hW1
 gi_upto_region 4 with (gi_at_call 35;refine CS.mono ?_;rintro e w1 ⟨bt,rfl,hbt,sv,mr,hsig,hfoot,k1'⟩)
 have k1:Za W1 w1:=k1';have K1:Za w w1:=KW.trans' k1;have hzw:=k1.size
 gi_wp2_with (gi_at_call 49;refine (Zui Fence.wide _ trivial rfl _ _).mono ?_;rintro e w' ⟨rfl,rfl⟩)
 obtain ⟨W0,hW0⟩:∃ W0,W0=((w1.alloc (.cells #[.slice none 0 0,.slice none 0 0] 124)).alloc (.cells #[.slice none 0 0] 32)).alloc (.cells #[.pointer (some ⟨bt,0,none⟩)] 25):=⟨_,rfl⟩;have K0:Za w1 W0:=by rw [hW0];exact (((Zc.refl _ _).alloc _).alloc _).alloc _
 have z0:W0.heap.size=w1.heap.size+3:=by rw [hW0];simp
 have b0:W0.heap[w1.heap.size]? = some (.cells #[.slice none 0 0,.slice none 0 0] 124 (0,0)):=by
  rw [hW0,heap_alloc_old _ _ (by simp;omega)];exact heap_alloc2_old _ _ _
 have b1:W0.heap[w1.heap.size+1]? = some (.cells #[.slice none 0 0] 32 (0,0)):=by
  rw [hW0,heap_alloc_old _ _ (by simp)];exact Zp _ _ _
 have b2:W0.cell? ⟨w1.heap.size+1+1,0,none⟩=some (.pointer (some ⟨bt,0,none⟩)):=by
  have:=Zp (w1.alloc (.cells #[.slice none 0 0,.slice none 0 0] 124)) (.cells #[.slice none 0 0] 32) (.cells #[.pointer (some ⟨bt,0,none⟩)] 25);simp only [World.size_alloc] at this;rw [<- hW0] at this;exact Zb this 0
 rw [<- hW0];clear hW0;have START:CpJ L R w1 0 W0:=⟨K0,.slice none 0 0,b1,World.ownsRow_nil _ _ _ _,.slice none 0 0,.slice none 0 0,b0,(λ e=>by rcases e with e | e | e <;> first | omega | (simp [Value.ownBlock] at e)),Lay.nil _ _⟩;have ST:Hid (∀ X,Za w1 X->Kd X b bs L R lv vs∧X.cell? ⟨w.heap.size,0,none⟩=some (.pointer (some ⟨b,0,none⟩))):=λ X hk=>⟨h.same (K1.trans' hk),Zb (BK.out X (k1.trans' hk)).1 0⟩
 refine Zle rfl (by omega) (gf:=96) (lb:=#[.pointer (some ⟨w1.heap.size+1+1,0,none⟩)]) rfl trivial (enters_of Tryz.func96 (by kernel_rfl) rfl) (B:=w1.heap.size) (by omega) (Zn1 hsig K0 b2 (by omega)) (λ k vs W h=>by obtain ⟨_,rfl⟩:=h;rfl)
  (λ k W=>CpJ L R w1 k W) (λ k X Y h hk=>h.up hk) (λ k X l o o' h hl ho hw=>h.put hl ho (by omega)) START ?round ?done
 case done=>
  rintro D W hD hj hK;obtain ⟨j1,ev,j2,j3,vi,vp,j4,j5,j6⟩:=hj;obtain ⟨eo,ec,rfl⟩:=Zf j3;obtain ⟨io,ic,rfl⟩:=Zf j6.ri;obtain ⟨pvs,j7,j8⟩:=j6.rp;obtain ⟨po,pc,rfl⟩:=Zf j7
  have SS:Hid (∀ X,Za W X->(X.cell? ⟨w1.heap.size,0,none⟩=some (.slice io (Zk L R L.length).1.1.length ic)∧X.cell? ⟨w1.heap.size,1,none⟩=some (.slice po (Zk L R L.length).1.2.length pc)∧X.cell? ⟨w1.heap.size+1,0,none⟩=some (.slice eo (Zk L R L.length).2.length ec)∧X.cell? ⟨w.heap.size,0,none⟩=some (.pointer (some ⟨b,0,none⟩)))∧X.heap[w.heap.size+1]? = some (.cells #[.slice none 0 0,.slice none 0 0,.slice none 0 0,.slice none 0 0] 51 (0,0))∧X.heap[w.heap.size+1+1]? = some (.cells #[.nilIface] 37 (0,0))∧X.heap[D]? = some (.deferred (some []))):=λ X hk=>by
   obtain ⟨a1,a2,a3⟩:=BK.out X ((k1.trans' j1).trans' hk);exact ⟨⟨Zb (hk.at0 j4) 0,Zb (hk.at0 j4) 1,Zb (hk.at0 j2) 0,Zb a1 0⟩,a2,a3,hk.at0 hK⟩
  have CR:Hid (∀ X,Za W X->Calls Tryz.prog 51 #[.pointer (some ⟨bt,0,none⟩),.pointer (some ⟨b,0,none⟩)] X λ e w' => ∃ ro rc cs,e=.returned (.slice ro R.length rc)∧Hid (w'.ownsRow X.heap.size 62 1 (.slice ro R.length rc) R.length cs∧RtC X.heap.size w' cs (Zj L R))∧Za X w'):=λ X hk=>by
   have hsX:Yd X bt L sv mr:=hsig.kept (j1.trans' hk) (λ _ _ f=>f);refine (Zhz ⟨⟨sv,mr,hsX,λ q hq=>J7 hsX q hq⟩,hArs⟩ (ST.out X (j1.trans' hk)).1).mono ?_;rintro e w' ⟨ro,rc,cs,rfl,q1,q2,q3⟩;exact ⟨ro,rc,cs,rfl,⟨q1,q2⟩,q3⟩
  have hzW:=j1.size;have LAYW:Hid (Lay (λ q=>q<w1.heap.size) W (.slice io (Zk L R L.length).1.1.length ic) (.slice po (Zk L R L.length).1.2.length pc) (Zk L R L.length).1∧Row w1.heap.size W (.slice eo (Zk L R L.length).2.length ec) (Zk L R L.length).2):=⟨j6.mono (λ q _ e=>.inl e),j3⟩;obtain ⟨⟨s0,s1,s2,s3⟩,_,_,_⟩:=SS.out W (Zc.refl _ _);have CC0:=And.intro s0 (And.intro s1 (And.intro s2 s3));have kd:Za W W.drew:=Zc.drew (Zc.refl _ _);have HJ1:Hid (Za w W):=K1.trans' j1;clear j2 j3 j4 j5 j6 j7 j8 START;obtain ⟨I1,hI1⟩:∃ I1,I1=(Zk L R L.length).1.1.length:=⟨_,rfl⟩;obtain ⟨P1,hP1⟩:∃ P1,P1=(Zk L R L.length).1.2.length:=⟨_,rfl⟩;obtain ⟨E1,hE1⟩:∃ E1,E1=(Zk L R L.length).2.length:=⟨_,rfl⟩;have HIP:Hid (I1=(Zk L R L.length).1.1.length∧P1=(Zk L R L.length).1.2.length∧E1=(Zk L R L.length).2.length):=⟨hI1,hP1,hE1⟩;rw [<- hI1,<- hP1,<- hE1] at CC0 SS LAYW;clear hI1 hP1 hE1 s0 s1 s2 s3;have SX:Hid (∀ X,Za W X->X.cell? ⟨w1.heap.size,0,none⟩=some (.slice io I1 ic)∧X.cell? ⟨w1.heap.size,1,none⟩=some (.slice po P1 pc)∧X.cell? ⟨w1.heap.size+1,0,none⟩=some (.slice eo E1 ec)∧X.cell? ⟨w.heap.size,0,none⟩=some (.pointer (some ⟨b,0,none⟩))):=λ X hk=>(SS.out X hk).1
  have SK:Hid (∀ X Y,Za W X->Zc (λ q=>q=w.heap.size+1∨q=w.heap.size+1+1) X Y->Y.cell? ⟨w1.heap.size,0,none⟩=some (.slice io I1 ic)∧Y.cell? ⟨w1.heap.size,1,none⟩=some (.slice po P1 pc)∧Y.cell? ⟨w1.heap.size+1,0,none⟩=some (.slice eo E1 ec)∧Y.cell? ⟨w.heap.size,0,none⟩=some (.pointer (some ⟨b,0,none⟩))):=λ X Y hk hy=>by
   obtain ⟨a0,a1,a2,a3⟩:=SX.out X hk;have far:∀ q,w1.heap.size<=q∨q=w.heap.size->¬ (q=w.heap.size+1∨q=w.heap.size+1+1):=λ q e e2=>by omega
   exact ⟨(hy.cell (p:=⟨w1.heap.size,0,none⟩) (World.block_lt_of_cell? _ _ a0) (far _ (.inl (Nat.le_refl _)))).trans a0,(hy.cell (p:=⟨w1.heap.size,1,none⟩) (World.block_lt_of_cell? _ _ a1) (far _ (.inl (Nat.le_refl _)))).trans a1,(hy.cell (p:=⟨w1.heap.size+1,0,none⟩) (World.block_lt_of_cell? _ _ a2) (far _ (.inl (Nat.le_succ _)))).trans a2,(hy.cell (p:=⟨w.heap.size,0,none⟩) (World.block_lt_of_cell? _ _ a3) (far _ (.inr rfl))).trans a3⟩
  gi_wp2_with fail
  refine wpIn_wide.2 ?_;refine Code.wp_mono (Q:=Exit.then _ (λ _ _ _=>False)) (λ e a w h=>by cases e <;> first | exact h | exact h.elim) ?_;refine wp_region_held_drew (S:=λ w' => w'.cell? ⟨w1.heap.size,0,none⟩=some (.slice io I1 ic)∧w'.cell? ⟨w1.heap.size,1,none⟩=some (.slice po P1 pc)∧w'.cell? ⟨w1.heap.size+1,0,none⟩=some (.slice eo E1 ec)∧w'.cell? ⟨w.heap.size,0,none⟩=some (.pointer (some ⟨b,0,none⟩))) (by kernel_rfl) CC0 (λ hHeld=>?_);refine wpAnyH_take (i:=0) (v:=.pointer (some ⟨w1.heap.size,0,none⟩)) rfl (by kernel_rfl) (by kernel_rfl) (by kernel_rfl) (λ _ _ _ h=>h) (.inl ⟨rfl,λ w' hS=>by obtain ⟨h0,h1,h2,h3⟩:=hS;simp [go_sem]⟩) hHeld ?_;refine wpAnyH_take (i:=1) (v:=.slice io I1 ic) rfl (by kernel_rfl) (by kernel_rfl) (by kernel_rfl) (λ _ _ _ h=>h) (.inl ⟨rfl,λ w' hS=>by obtain ⟨h0,h1,h2,h3⟩:=hS;simp [go_sem,h0]⟩) hHeld ?_;refine wpAnyH_take (i:=2) (v:=.pointer (some ⟨w1.heap.size,1,none⟩)) rfl (by kernel_rfl) (by kernel_rfl) (by kernel_rfl) (λ _ _ _ h=>h) (.inl ⟨rfl,λ w' hS=>by obtain ⟨h0,h1,h2,h3⟩:=hS;simp [go_sem]⟩) hHeld ?_;refine wpAnyH_take (i:=3) (v:=.slice po P1 pc) rfl (by kernel_rfl) (by kernel_rfl) (by kernel_rfl) (λ _ _ _ h=>h) (.inl ⟨rfl,λ w' hS=>by obtain ⟨h0,h1,h2,h3⟩:=hS;simp [go_sem,h1]⟩) hHeld ?_;refine wpAnyH_take (i:=4) (v:=.slice eo E1 ec) rfl (by kernel_rfl) (by kernel_rfl) (by kernel_rfl) (λ _ _ _ h=>h) (.inl ⟨rfl,λ w' hS=>by obtain ⟨h0,h1,h2,h3⟩:=hS;simp [go_sem,h2]⟩) hHeld ?_;refine wpAnyH_take (i:=5) (v:=.pointer (some ⟨bt,0,none⟩)) rfl (by kernel_rfl) (by kernel_rfl) (by kernel_rfl) (λ _ _ _ h=>h) (.inl ⟨rfl,λ w' hS=>by obtain ⟨h0,h1,h2,h3⟩:=hS;simp [go_sem]⟩) hHeld ?_;refine wpAnyH_take (i:=6) (v:=.pointer (some ⟨b,0,none⟩)) rfl (by kernel_rfl) (by kernel_rfl) (by kernel_rfl) (λ _ _ _ h=>h) (.inl ⟨rfl,λ w' hS=>by obtain ⟨h0,h1,h2,h3⟩:=hS;simp [go_sem,h3]⟩) hHeld ?_;refine wpAnyH_ready (rs:=[7]) (by kernel_rfl) (by simp) ?_;refine AllReadyH.cons rfl (λ K hK=>?_) AllReadyH.nil
  refine Yb rfl (CR.out _ kd) (by simp [go_sem]) ?_;rintro e w3 ⟨ro,rc,cs,rfl,hrt,k3⟩;refine ⟨_,rfl,?_⟩;have hk3:Za W w3:=kd.trans' k3;have cc3:=SX.out w3 hk3;obtain ⟨-,q1,q2,q3⟩:=SS.out w3 hk3;have e0:w3.cell? ⟨w.heap.size+1,0,none⟩=some (.slice none 0 0):=Zb q1 0;have e1:w3.cell? ⟨w.heap.size+1,1,none⟩=some (.slice none 0 0):=Zb q1 1;have e2:w3.cell? ⟨w.heap.size+1,2,none⟩=some (.slice none 0 0):=Zb q1 2;have e3:w3.cell? ⟨w.heap.size+1,3,none⟩=some (.slice none 0 0):=Zb q1 3;have f0:=Zd q1 0;have f1:=Zd q1 1;have f2:=Zd q1 2;have f3:=Zd q1 3;obtain ⟨p1,p2⟩:=Zad q1 (.slice io I1 ic) (.slice po P1 pc) (.slice eo E1 ec) (.slice ro R.length rc);have n1:=p2.at q2 (λ e=>(by have e' : w.heap.size+1+1=w.heap.size+1:=e;omega));have n0:=Zb n1 0;have nf:=Zd n1 0;simp only [List.getElem?_toArray,List.getElem?_cons_zero] at n0;have cc4:=SK.out w3 _ hk3 (p2.mono (λ _ _ e=>.inl e));have k5:=Zt ((((w3.setCell ⟨w.heap.size+1,0,none⟩ (.slice io I1 ic)).setCell ⟨w.heap.size+1,1,none⟩ (.slice po P1 pc)).setCell ⟨w.heap.size+1,2,none⟩ (.slice eo E1 ec)).setCell ⟨w.heap.size+1,3,none⟩ (.slice ro R.length rc)) (w.heap.size+1+1) 0 .nilIface;have k35:=Zc.trans (p2.mono (S' := λ q=>q=w.heap.size+1∨q=w.heap.size+1+1) (λ _ _ e=>.inl e)) k5 (λ _ _ e=>.inr e);have cc5:=SK.out w3 _ hk3 k35;refine hK.out _ _ cc3 (λ hHeld=>?_);clear hK K;refine wpAnyH_take (i:=8) (v:=.agg #[.slice io I1 ic,.slice po P1 pc,.slice eo E1 ec,.slice ro R.length rc]) rfl (by kernel_rfl) (by kernel_rfl) (by kernel_rfl) (λ _ _ _ h=>h) (.inl ⟨rfl,λ w' hS=>by simp [go_sem]⟩) hHeld ?_;refine wpAnyH_ready (rs:=[9]) (by kernel_rfl) (by simp) ?_;refine AllReadyH.cons rfl (λ K hK=>?_) AllReadyH.nil
  go_simp
  refine hK.out _ _ cc4 (λ hHeld=>?_);clear hK K;refine wpAnyH_ready (rs:=[10]) (by kernel_rfl) (by simp) ?_;refine AllReadyH.cons rfl (λ K hK=>?_) AllReadyH.nil
  go_simp
  refine hK.out _ _ cc5 (λ hHeld=>?_);clear hK K;refine wpAnyH_done (by kernel_rfl) ?_ _
  gi_wp2_with fail
  obtain ⟨Y4,hY4⟩:∃ Y4,Y4=(((w3.setCell ⟨w.heap.size+1,0,none⟩ (.slice io I1 ic)).setCell ⟨w.heap.size+1,1,none⟩ (.slice po P1 pc)).setCell ⟨w.heap.size+1,2,none⟩ (.slice eo E1 ec)).setCell ⟨w.heap.size+1,3,none⟩ (.slice ro R.length rc):=⟨_,rfl⟩;rw [<- hY4] at p1 n1 k5 k35 ⊢;have hzW3:=hk3.size;have g5:=k5.at p1 (λ e=>(by have e' : w.heap.size+1=w.heap.size+1+1:=e;omega));have n5:=Zs n1 0 (.nilIface);have d5:=k35.at q3 (λ e=>by omega);have ks:Zc (λ q=>q=D) (Y4.setCell ⟨w.heap.size+1+1,0,none⟩ .nilIface) ((Y4.setCell ⟨w.heap.size+1+1,0,none⟩ .nilIface).putObj D (.deferred none)):=Kz
  have noD:∀ q,(λ q=>q=D) q->∀ cur t,(Y4.setCell ⟨w.heap.size+1+1,0,none⟩ .nilIface).heap[q]? ≠ some (.cells cur t (0,0)):=λ q e cur t hc=>by
   have e' : q=D:=e;rw [e', d5] at hc;cases hc
  have zz:=z0;have gZ:=(World.putObj_heap_other (w:=Y4.setCell ⟨w.heap.size+1+1,0,none⟩ .nilIface) (r:=D) (o:=.deferred none) (k:=w.heap.size+1) (by omega)).trans g5;have nZ:=(World.putObj_heap_other (w:=Y4.setCell ⟨w.heap.size+1+1,0,none⟩ .nilIface) (r:=D) (o:=.deferred none) (k:=w.heap.size+1+1) (by omega)).trans n5;have v0:=Zb gZ 0;have v1:=Zb gZ 1;have v2:=Zb gZ 2;have v3:=Zb gZ 3;have v4:=Zb nZ 0;simp only [List.getElem?_toArray,List.getElem?_cons_zero,List.getElem?_cons_succ] at v0 v1 v2 v3;have v5:((Y4.setCell ⟨w.heap.size+1+1,0,none⟩ .nilIface).putObj D (.deferred none)).cell? ⟨w.heap.size+1+1,0,none⟩=some .nilIface:=by rw [v4];rfl
  refine ⟨by simp,.inl ⟨_,_,rfl,run_takeDeferred d5,?_⟩⟩;refine ⟨.tuple #[.agg #[.slice io I1 ic,.slice po P1 pc,.slice eo E1 ec,.slice ro R.length rc],.nilIface],by simp [results,Tryz.results14,go_sem,v0,v1,v2,v3,v5],?_⟩;obtain ⟨l1,l2⟩:=LAYW.out;obtain ⟨t1,t2⟩:=hrt.out;obtain ⟨a1,a2,a3⟩:=HIP.out;have hdz:W.drew.heap.size=W.heap.size:=rfl;have own1:∀ q,(Value.slice eo E1 ec).ownBlock=some q->¬ (q=w.heap.size+1∨q=w.heap.size+1+1):=λ q e e2=>by have:=Y0 l2 e;omega
  have own2:∀ q,(Value.slice ro R.length rc).ownBlock=some q->¬ (q=w.heap.size+1∨q=w.heap.size+1+1):=λ q e e2=>by have:=Y0 t1 e;omega
  have r1:=k35.row (hk3.row l2 (λ _ _ f=>f)) own1;have r2:=k35.row t1 own2;refine ⟨io,ic,po,pc,eo,ec,ro,rc,cs,by rw [a1,a2,a3],?_,?_,?_,?_,?_⟩
  ·rw [<- a1,<- a2]
   exact (((l1.same hk3).keptB k35 (λ q e=>by show q<w1.heap.size;omega)).kept ks (λ q e=>⟨λ cur=>noD q e cur _,λ cur=>noD q e cur _,λ cur=>noD q e cur _⟩)).mono (λ q _ e=>by show q<w1.heap.size;have e' : q<w.heap.size:=e;omega)
  ·rw [<- a3]
   exact Yi (ks.row r1 (λ q e e2=>by obtain ⟨cur,hc⟩:=Zo r1 e;exact noD q e2 cur _ hc)) (by omega)
  ·exact Yi (ks.row r2 (λ q e e2=>by obtain ⟨cur,hc⟩:=Zo r2 e;exact noD q e2 cur _ hc)) (by omega)
  ·refine RtC.low ((t2.kept k35 (λ q e=>?_)).kept ks (λ q e=>⟨λ cur=>noD q e cur _,λ cur=>noD q e cur _⟩)) (by omega)
   rcases e with e | e
   ·rw [e]
    exact ⟨λ cur h=>(by rw [q1] at h;cases h),λ cur h=>(by rw [q1] at h;cases h)⟩
   ·rw [e]
    exact ⟨λ cur h=>(by rw [q2] at h;cases h),λ cur h=>(by rw [q2] at h;cases h)⟩
  ·exact Zc.trans (Zc.trans (HJ1.out.trans' hk3) k35 (λ i hi e=>by omega)) ks (λ i hi e=>by have e' : i=D:=e;omega)
 case round=>
  rintro l k vs W hk hl hlW hj ⟨hk', rfl⟩;obtain ⟨Wa,hWa⟩:∃ Wa,Wa=W.alloc (.cells #[.string L[k].name,.int .i64 L[k].ar,.bool L[k].df] 129):=⟨_,rfl⟩;have ka:Za W Wa:=by rw [hWa];exact (Zc.refl _ _).alloc _
  have bx:Wa.heap[W.heap.size]? = some (.cells #[.string L[k].name,.int .i64 L[k].ar,.bool L[k].df] 129 (0,0)):=by rw [hWa];exact heap_alloc_new _ _
  gi_wp2_with fail
  rw [<- hWa];clear hWa;refine ⟨Rnd.same ka (by omega),λ o o' ho hoc hoc' => ?_⟩;have hjb:=(hj.up ka).put (o' := o') ho hoc (by omega);have bxb:=Xt (o' := o') ho hoc bx rfl;have lob:(Wa.putObj l o').heap[l]? = some o' := World.putObj_heap_same (Zi ho);obtain ⟨Wb,hWb⟩:∃ Wb,Wb=Wa.putObj l o' := ⟨_,rfl⟩;rw [<- hWb] at hjb bxb lob ⊢;have hzb:W0.heap.size<=Wb.heap.size:=by have:=Zi lob;omega
  clear hWb ho bx hj ka;have y2:Wb.cell? ⟨W.heap.size,2,none⟩=some (.bool L[k].df):=Zb bxb 2;obtain ⟨j1,ev,j2,j3,j4⟩:=hjb;obtain ⟨sm1,sm2⟩:=Ju hArs hL64 hle hok k (by omega);have c2:=Zb j2 0;simp only [List.getElem?_toArray,List.getElem?_cons_zero] at c2;obtain ⟨eo,ec,rfl⟩:=Zf j3;obtain ⟨i0,hi0,hz0,hz1,hz2⟩:=info_parts Xr;have bb1:(Zk L R k).2.length+1<=maxLen:=by unfold maxLen;omega
  have bb2:((Zk L R k).2.length+1) * 8<=140737488355328:=by omega
  have hdf:=Zbv hk';have hj1:=j1.size;cases hd:L[k].df with
  | false=>
   rw [hd] at hdf y2
   have MORE:Hid (∀ w2 ev', w2.ownsRow w1.heap.size 3 1 ev' ((Zk L R k).2.length+1) (iv (Zk L R k).2 ++ [.int .i64 (-1)])->Zc (λ q=>(Value.slice eo (Zk L R k).2.length ec).ownBlock=some q) Wb w2->(∀ q,ev'.ownBlock=some q->(Value.slice eo (Zk L R k).2.length ec).ownBlock=some q∨Wb.heap.size<=q)->(w2.cell? ⟨w1.heap.size+1,0,none⟩=some (.slice eo (Zk L R k).2.length ec)∧w2.frozen? ⟨w1.heap.size+1,0,none⟩=false)∧CpJ L R w1 (k+1) (w2.setCell ⟨w1.heap.size+1,0,none⟩ ev')∧Rnd (w1.heap.size+3) w1.heap.size Wb (w2.setCell ⟨w1.heap.size+1,0,none⟩ ev')):=λ w2 ev' hr hkp hat=>by
    obtain ⟨q1,q2,q3⟩:=CpJ.pass (D:=w1.heap.size+3) hdf j1 j2 j3 j4 hr hkp hat;exact ⟨⟨Zb q1 0,Zd q1 0⟩,q2,q3⟩
   have hj3:Hid (Wb.ownsRow w1.heap.size 3 1 (.slice eo (Zk L R k).2.length ec) (Zk L R k).2.length (iv (Zk L R k).2)):=j3;have bb3:w1.heap.size<=(Wb.alloc (.cells #[.int .i64 (-1)] 3)).heap.size:=by simp;omega
   clear j1 j2 j3 j4 bxb lob sm1 sm2 hd ST;generalize (Zk L R k).2=EE at *
   gi_wp2_with (gi_at_builtin;refine wpListIn_append_own_at _ rfl _ _ 32 rfl w1.heap.size 3 i0 (.int .i64 0) 1 8 Tryz.underlying32 hi0 hz0 hz1 hz2 rfl (by decide) (.slice eo EE.length ec) EE.length (iv EE) rfl (World.ownsRow.alloc hj3.out _) ⟨Wb.heap.size,0,none⟩ 1 1 [.int .i64 (-1)] rfl rfl (cell_one_new _ _ _) (by simp [Value.oneCell']) bb1 bb2 bb3 ?_;intro v' w2 hown' hgrow _ hat;obtain ⟨g9,cap9,rfl⟩:=ownsRow_succ hown'; obtain ⟨⟨m1', m2'⟩,m3,m4⟩:=MORE.out w2 _ hown' (Zc.grown (Zc.alloc (Zc.refl _ Wb) _) hgrow (λ _ e _=>e)) (Zk9 hat (by simp)))
  | true=>
   rw [hd] at hdf y2;obtain ⟨t,ht⟩:=hall k hk' hdf;obtain ⟨hstb,rb⟩:=ST.out Wb j1;have hts:=Ku hArs hL64 hle hok hk' ht
   have CB:Calls Tryz.prog 8 #[.pointer (some ⟨b,0,none⟩),.int .i64 (k:Int)] Wb λ e w' => ∃ tk tr tpo tpl tpc tko tkl tkc,e=.returned (.tuple #[.agg #[.int .i64 tk,.int .i64 tr,.slice tpo tpl tpc,.slice tko tkl tkc],.nilIface])∧Hid (CsB (λ b=>Wb.heap.size<=b) w' 2001 (.agg #[.int .i64 tk,.int .i64 tr,.slice tpo tpl tpc,.slice tko tkl tkc]) t)∧Za Wb w' := by
    refine (Zd5 hstb (k:Int)).mono ?_;rintro e w' ⟨hk9,h9⟩;rw [if_pos hdf,Int.toNat_natCast,ht] at h9;obtain ⟨v,rfl,hc⟩:=h9;obtain ⟨tk,tr,tpo,tpl,tpc,tko,tkl,tkc,rfl⟩:=hc.shape;exact ⟨tk,tr,tpo,tpl,tpc,tko,tkl,tkc,rfl,hc,hk9⟩
   obtain ⟨vi,vp,tt1,tt2,tt3⟩:=id j4;obtain ⟨io,ic,rfl⟩:=Zf tt3.ri
   have XC:Hid (∀ w3 o,Za Wb w3->(w3.alloc o).cell? ⟨w1.heap.size+1,0,none⟩=some (.slice eo (Zk L R k).2.length ec)∧(w3.alloc o).cell? ⟨w1.heap.size,0,none⟩=some (.slice io (Zk L R k).1.1.length ic)∧(w3.alloc o).ownsRow w1.heap.size 3 1 (.slice eo (Zk L R k).2.length ec) (Zk L R k).2.length (iv (Zk L R k).2)∧w1.heap.size<=((w3.alloc o).alloc (.cells #[.int .i64 ((Zk L R k).1.1.length:Int)] 3)).heap.size):=λ w3 o hk3=>by
    have kx:Za Wb (w3.alloc o):=Zc.alloc hk3 _;exact ⟨Zb (kx.at0 j2) 0,Zb (kx.at0 tt1) 0,kx.row j3 (λ _ _ f=>f),by have:=kx.size;simp at this ⊢;omega⟩
   have LAID:Hid (∀ w3 tk tr tpo tpl tpc tko tkl tkc w4 ev', Za Wb w3->CsB (λ b=>Wb.heap.size<=b) w3 2001 (.agg #[.int .i64 tk,.int .i64 tr,.slice tpo tpl tpc,.slice tko tkl tkc]) t->w4.ownsRow w1.heap.size 3 1 ev' ((Zk L R k).2.length+1) (iv (Zk L R k).2 ++ [.int .i64 ((Zk L R k).1.1.length:Int)])->Zc (λ q=>(Value.slice eo (Zk L R k).2.length ec).ownBlock=some q) (w3.alloc (.cells #[.int .i64 tk,.int .i64 tr,.slice tpo tpl tpc,.slice tko tkl tkc] 35)) w4->(∀ q,ev'.ownBlock=some q->(Value.slice eo (Zk L R k).2.length ec).ownBlock=some q∨(w3.alloc (.cells #[.int .i64 tk,.int .i64 tr,.slice tpo tpl tpc,.slice tko tkl tkc] 35)).heap.size<=q) ->
     (w4.cell? ⟨w1.heap.size+1,0,none⟩=some (.slice eo (Zk L R k).2.length ec)∧w4.frozen? ⟨w1.heap.size+1,0,none⟩=false)∧((w4.setCell ⟨w1.heap.size+1,0,none⟩ ev').cell? ⟨w3.heap.size,0,none⟩=some (.int .i64 tk)∧(w4.setCell ⟨w1.heap.size+1,0,none⟩ ev').cell? ⟨w3.heap.size,1,none⟩=some (.int .i64 tr)∧(w4.setCell ⟨w1.heap.size+1,0,none⟩ ev').cell? ⟨w3.heap.size,2,none⟩=some (.slice tpo tpl tpc)∧(w4.setCell ⟨w1.heap.size+1,0,none⟩ ev').cell? ⟨w3.heap.size,3,none⟩=some (.slice tko tkl tkc))∧Calls Tryz.prog 50 #[.pointer (some ⟨w1.heap.size,0,none⟩),.agg #[.int .i64 tk,.int .i64 tr,.slice tpo tpl tpc,.slice tko tkl tkc]] (w4.setCell ⟨w1.heap.size+1,0,none⟩ ev') λ e Z=>(∃ u,e=.returned u)∧CpJ L R w1 (k+1) Z∧Rnd (w1.heap.size+3) w1.heap.size Wb Z):=by
    intro w3 tk tr tpo tpl tpc tko tkl tkc w4 ev' hk3 hc3 hr hkp hat;have ka:Za w3 (w3.alloc (.cells #[.int .i64 tk,.int .i64 tr,.slice tpo tpl tpc,.slice tko tkl tkc] 35)):=(Zc.refl _ _).alloc _;obtain ⟨q1,q2,q3⟩:=CpJ.laid (D:=w1.heap.size+3) hdf ht (by omega) (hk3.trans' ka) j1 j2 j3 j4 (hc3.same ka) hr hkp hat;have hz3:=hk3.size;have lE:=Zi j2
    have hb:=q2.at (heap_alloc_new w3 (.cells #[.int .i64 tk,.int .i64 tr,.slice tpo tpl tpc,.slice tko tkl tkc] 35)) (λ e=>by
     rcases e with e | e
     ·have:=Y3 j3 e;omega
     ·omega)
    exact ⟨⟨Zb q1 0,Zd q1 0⟩,⟨Zb hb 0,Zb hb 1,Zb hb 2,Zb hb 3⟩,q3⟩
   clear j1 j2 j3 j4 tt1 tt2 tt3 bxb lob sm1 sm2 hd ST hstb hts ht;generalize (Zk L R k).2=EE at *;generalize (Zk L R k).1.1.length=NN at *
   gi_wp2_with (first
    | (gi_at_call 8;refine (CallsIn.inRound l (callsIn_wide.2 CB)).mono ?_;rintro e w3 ⟨tk,tr,tpo,tpl,tpc,tko,tkl,tkc,rfl,hcs,k3⟩;obtain ⟨xc1,xc2,xc3,bb3⟩:=XC.out w3 (.cells #[.int .i64 tk,.int .i64 tr,.slice tpo tpl tpc,.slice tko tkl tkc] 35) k3)
    | (gi_at_builtin;refine wpListIn_append_own_at _ rfl _ _ 32 rfl w1.heap.size 3 i0 (.int .i64 0) 1 8 Tryz.underlying32 hi0 hz0 hz1 hz2 rfl (by decide) (.slice eo EE.length ec) EE.length (iv EE) rfl (World.ownsRow.alloc xc3 _) ⟨w3.heap.size+1,0,none⟩ 1 1 [.int .i64 (NN:Int)] rfl rfl (by have:=cell_one_new (w3.alloc (.cells #[.int .i64 tk,.int .i64 tr,.slice tpo tpl tpc,.slice tko tkl tkc] 35)) (.int .i64 (NN:Int)) 3;simp only [World.size_alloc] at this;exact this) (by simp [Value.oneCell']) bb1 bb2 bb3 ?_;intro v' w4 hown' hgrow _ hat;obtain ⟨g9,cap9,rfl⟩:=ownsRow_succ hown'; obtain ⟨⟨m1', m2'⟩,⟨d0,d1,d2,d3⟩,CL⟩:=LAID.out w3 tk tr tpo tpl tpc tko tkl tkc w4 _ k3 hcs.out hown' (Zc.grown (Zc.alloc (Zc.refl _ _) _) hgrow (λ _ e _=>e)) (Zk9 hat (by simp)))
    | (gi_at_call 50;refine (CallsIn.inRound l (callsIn_wide.2 CL)).mono ?_;rintro e w5 ⟨⟨u,rfl⟩,m3,m4⟩))
end
section
open Go.RowKit
attribute [local go_sem ↓] Go.wp_at_zero Go.wp_at_succ
def wtN (Q:List (Int × List Int)):Nat:=Q.countP (λ p=>decide (0<=p.1))
theorem Zlt {Q:List (Int × List Int)} {k:Nat} (h:k<Q.length):wtN (Q.take (k+1))=wtN (Q.take k)+if 0<=Q[k].1 then 1 else 0:=by
 unfold wtN;rw [<- List.take_append_getElem h,List.countP_append];simp [List.countP_cons]
theorem Zut (Q:List (Int × List Int)):wtN Q<=Q.length:=List.countP_le_length
def Zt4 (w:World) (ro:Option Addr) (Q:List (List (Int × List Int))):Prop:=
 Q=[]∨∃ b off,ro=some ⟨b,off,none⟩∧b<w.heap.size∧∀ i (h:i<Q.length),∃ g gc,w.cell? ⟨b,off+i,none⟩=some (.slice (some ⟨g,0,none⟩) Q[i].length gc)∧g<w.heap.size∧∀ j (hj:j<Q[i].length),∃ ao al ac,w.cell? ⟨g,j * 2,none⟩=some (.int .i64 Q[i][j].1)∧w.cell? ⟨g,j * 2+1,none⟩=some (.slice ao al ac)
theorem Zt4.same {w w' : World} {ro:Option Addr} {Q:List (List (Int × List Int))} (h:Zt4 w ro Q) (hk:Za w w'):Zt4 w' ro Q:=by
 refine h.imp id ?_;rintro ⟨b,off,e,hb,hc⟩;refine ⟨b,off,e,Nat.lt_of_lt_of_le hb hk.size,λ i hi=>?_⟩;obtain ⟨g,gc,c0,hg,c1⟩:=hc i hi;refine ⟨g,gc,(hk.cell (p:=⟨b,off+i,none⟩) hb (λ f=>f)).trans c0,Nat.lt_of_lt_of_le hg hk.size,λ j hj=>?_⟩;obtain ⟨ao,al,ac,d0,d1⟩:=c1 j hj;exact ⟨ao,al,ac,(hk.cell (p:=⟨g,j * 2,none⟩) hg (λ f=>f)).trans d0,(hk.cell (p:=⟨g,j * 2+1,none⟩) hg (λ f=>f)).trans d1⟩
theorem Zab {w:World} {ro:Option Addr} {Q:List (List (Int × List Int))} (hR:Zt4 w ro Q) (hl:∀ i (h:i<Q.length),Q[i].length<=140737488355328) (io po eo:Option Addr) (il ic pl pc el ec rc:Nat) (n:Int) :
  Calls Tryz.prog 18 #[.agg #[.slice io il ic,.slice po pl pc,.slice eo el ec,.slice ro Q.length rc],.int .i64 n] w λ e w' => e=.returned (.tuple #[.int .i64 (if Jh n Q.length then (wtN (Q.getD n.toNat []):Int) else 0),.int .i64 (if Jh n Q.length then 0 else 91)])∧Za w w' := by
 have CI:=Xj n Q.length;obtain ⟨W1,hW1⟩:∃ W1,W1=w.alloc (.cells #[.slice io il ic,.slice po pl pc,.slice eo el ec,.slice ro Q.length rc] 51):=⟨_,rfl⟩;have ka:Za w W1:=by rw [hW1];exact (Zc.refl _ w).alloc _
 have hbx:W1.heap[w.heap.size]? = some (.cells #[.slice io il ic,.slice po pl pc,.slice eo el ec,.slice ro Q.length rc] 51 (0,0)):=by rw [hW1];exact heap_alloc_new w _
 have x3:W1.cell? ⟨w.heap.size,3,none⟩=some (.slice ro Q.length rc):=Zb hbx 3;cases hi:Jh n Q.length with
 | false=>
  rw [hi] at CI;clear hi hR hbx hl
  go_enter Tryz.func18,Tryz.ntmps18
  go_upto_region 1 with fail
  rw [<- hW1];clear hW1
  go_wp2_with (first | (go_at_call 56;refine (CI _).mono ?_;rintro e w2 ⟨rfl,rfl⟩))
  go_ret2
  exact ⟨rfl,ka⟩
 | true=>
  rw [hi] at CI;obtain ⟨i,rfl,hil⟩:=Za1 hi;have hq:Q.getD ((i:Int)).toNat []=Q[i]:=by rw [Int.toNat_natCast];simp [hil]
  rw [hq]
  obtain ⟨b,off,rfl,hb,hc⟩:∃ b off,ro=some ⟨b,off,none⟩∧b<W1.heap.size∧∃ g gc,W1.cell? ⟨b,off+i,none⟩=some (.slice (some ⟨g,0,none⟩) Q[i].length gc)∧g<W1.heap.size∧∀ j (hj:j<Q[i].length),∃ ao al ac,W1.cell? ⟨g,j * 2,none⟩=some (.int .i64 Q[i][j].1)∧W1.cell? ⟨g,j * 2+1,none⟩=some (.slice ao al ac):=by
   rcases hR.same ka with h | ⟨b,off,e,hb,hc⟩
   ·rw [h] at hil;simp at hil
   ·exact ⟨b,off,e,hb,hc i hil⟩
  obtain ⟨g,gc,c0,hg,c1⟩:=hc;have HL:=hl i hil;generalize Q[i]=q at *
  have HC:Hid (∀ wr,Za W1 wr->∀ j (hj:j<q.length),∃ ao al ac,wr.cell? ⟨g,j * 2,none⟩=some (.int .i64 q[j].1)∧wr.cell? ⟨g,j * 2+1,none⟩=some (.slice ao al ac)):=λ wr hk j hj=>by
   obtain ⟨ao,al,ac,d0,d1⟩:=c1 j hj;exact ⟨ao,al,ac,(hk.cell (p:=⟨g,j * 2,none⟩) hg (λ f=>f)).trans d0,(hk.cell (p:=⟨g,j * 2+1,none⟩) hg (λ f=>f)).trans d1⟩
  have i1:(0:Int)<=(i:Int):=by omega
  have i2:(i:Int)<(Q.length:Int):=by omega
  clear hi hR hbx hl c1 hq
  go_enter Tryz.func18,Tryz.ntmps18
  go_upto_region 1 with fail
  rw [<- hW1];clear hW1
  go_upto_region 5 with (first | (go_at_call 56;refine (CI _).mono ?_;rintro e w2 ⟨rfl,rfl⟩))
  go_loopw [6,21] (λ s6 s21 wr=>∃ k:Nat,k<=q.length∧s6=.int .i64 (wtN (q.take k):Int)∧s21=.int .i64 (k:Int)∧Za w2 wr) (λ _ s21 _=>q.length-(intOf s21).toNat)
  case atStart=>exact ⟨0,Nat.zero_le _,by simp [wtN],rfl,Zc.refl _ _⟩
  case round=>
   obtain ⟨k,hk,rfl,rfl,hs⟩:=hrel
   by_cases hlt:k<q.length
   ·obtain ⟨ao,al,ac,d0,d1⟩:=HC.out wr hs k hlt
    have hst:=Zlt hlt;have hle:=Zut (q.take k);rw [List.length_take] at hle;have hle2:wtN (q.take k)<=k:=by omega
    have j1:(0:Int)<=(k:Int):=by omega
    have j2:(k:Int)<(q.length:Int):=by omega
    generalize q[k].1=x at *;generalize wtN (q.take k)=m at *
    by_cases hx:0<=x
    ·rw [if_pos hx] at hst
     go_wp2_with fail
     go_roundw
     case rel=>exact ⟨k+1,by omega,by rw [hst];go_num,by go_num,hs.trans' (Zc.alloc (Zc.refl _ _) _)⟩
     case measure=>simp [intOf];omega
    ·rw [if_neg hx] at hst
     go_wp2_with fail
     go_roundw
     case rel=>exact ⟨k+1,by omega,by rw [hst];go_num,by go_num,hs.trans' (Zc.alloc (Zc.refl _ _) _)⟩
     case measure=>simp [intOf];omega
   ·obtain rfl:k=q.length:=by omega
    rw [List.take_length]
    go_wp2_with fail
    go_ret2
    exact ⟨rfl,ka.trans' hs⟩
theorem Lay.insAt {B:Nat->Prop} {w:World} {io:Option Addr} {n ic:Nat} {vp:Value} {s:St9} (h:Lay B w (.slice io n ic) vp s):Zaf w io s.1:=by
 rcases h.ri.2 with ⟨e,h0⟩ | ⟨g,cap,cur,e,hb,hg,h1,h2,h3,h4⟩
 ·exact .inl (List.eq_nil_of_length_eq_zero h0)
 ·cases e
  refine .inr ⟨g,0,rfl,Zi hg,λ i hi=>?_⟩;obtain ⟨a,b,c⟩:=Zvh hi;rw [Nat.zero_add,h.ri.cellAt _ (by omega),h.ri.cellAt _ (by omega),h.ri.cellAt _ (by omega)];exact ⟨a,b,c⟩
theorem Lay.pthAt {B:Nat->Prop} {w:World} {po:Option Addr} {n pc:Nat} {vi:Value} {s:St9} (h:Lay B w vi (.slice po n pc) s):Zaq w po s.2:=by
 obtain ⟨vs,hr,hp⟩:=h.rp
 rcases hr.2 with ⟨e,h0⟩ | ⟨g,cap,cur,e,hb,hg,h1,h2,h3,h4⟩
 ·exact .inl (List.eq_nil_of_length_eq_zero h0)
 ·cases e
  refine .inr ⟨g,0,rfl,Zi hg,λ i hi=>?_⟩;obtain ⟨ao,ac,a,b,_⟩:=hp.2 i hi;refine ⟨ao,ac,?_,b.1⟩;rw [Nat.zero_add,hr.cellAt _ (by omega)];exact a
theorem RtC.rgAt {base:Nat} {w:World} {ro:Option Addr} {n rc:Nat} {cs:List Value} {Q:List (List (Int × List Int))} (hr:w.ownsRow base 62 1 (.slice ro n rc) n cs) (h:RtC base w cs Q):Zt4 w ro Q:=by
 have hn:Q.length=n:=by have:=hr.1;have:=h.1;omega
 rcases hr.2 with ⟨e,h0⟩ | ⟨g,cap,cur,e,hb,hg,h1,h2,h3,h4⟩
 ·exact .inl (List.eq_nil_of_length_eq_zero (by omega))
 ·cases e
  refine .inr ⟨g,0,rfl,Zi hg,λ i hi=>?_⟩;obtain ⟨g', gc,a,b,cu,c1,c2,c3⟩:=h.2 i hi;refine ⟨g', gc,?_,Zi c1,λ j hj=>?_⟩
  ·rw [Nat.zero_add,hr.cellAt _ (by omega)]
   exact a
  ·obtain ⟨ao,ac,d1,d2,_⟩:=c3 j hj hj
   exact ⟨ao,_,ac,(Zb c1 _).trans d1,(Zb c1 _).trans d2⟩
def PaA (w:World) (ao:Option Addr) (Q:List (Int × List Int)):Prop:=
 Q=[]∨∃ b off,ao=some ⟨b,off,none⟩∧b<w.heap.size∧∀ i (h:i<Q.length),∃ po pc,w.cell? ⟨b,off+i * 2,none⟩=some (.int .i64 Q[i].1)∧w.cell? ⟨b,off+i * 2+1,none⟩=some (.slice po Q[i].2.length pc)∧Zh w po Q[i].2
theorem PaA.same {w w' : World} {ao:Option Addr} {Q:List (Int × List Int)} (h:PaA w ao Q) (hk:Za w w'):PaA w' ao Q:=by
 refine h.imp id ?_;rintro ⟨b,off,e,hb,hc⟩;refine ⟨b,off,e,Nat.lt_of_lt_of_le hb hk.size,λ i hi=>?_⟩;obtain ⟨po,pc,c0,c1,c2⟩:=hc i hi;exact ⟨po,pc,(hk.cell (p:=⟨b,off+i * 2,none⟩) hb (λ f=>f)).trans c0,(hk.cell (p:=⟨b,off+i * 2+1,none⟩) hb (λ f=>f)).trans c1,c2.same hk⟩
theorem PaA.get {w:World} {ao:Option Addr} {Q:List (Int × List Int)} (h:PaA w ao Q) {i:Nat} (hi:i<Q.length):∃ b off po pc,ao=some ⟨b,off,none⟩∧w.cell? ⟨b,off+i * 2,none⟩=some (.int .i64 Q[i].1)∧w.cell? ⟨b,off+i * 2+1,none⟩=some (.slice po Q[i].2.length pc)∧Zh w po Q[i].2:=by
 rcases h with rfl | ⟨b,off,e,hb,hc⟩
 ·simp at hi
 ·obtain ⟨po,pc,c0,c1,c2⟩:=hc i hi
  exact ⟨b,off,po,pc,e,c0,c1,c2⟩
def RgP (w:World) (ro:Option Addr) (Q:List (List (Int × List Int))):Prop:=
 Q=[]∨∃ b off,ro=some ⟨b,off,none⟩∧b<w.heap.size∧∀ i (h:i<Q.length),∃ po pc,w.cell? ⟨b,off+i,none⟩=some (.slice po Q[i].length pc)∧PaA w po Q[i]
theorem RgP.same {w w' : World} {ro:Option Addr} {Q:List (List (Int × List Int))} (h:RgP w ro Q) (hk:Za w w'):RgP w' ro Q:=by
 refine h.imp id ?_;rintro ⟨b,off,e,hb,hc⟩;refine ⟨b,off,e,Nat.lt_of_lt_of_le hb hk.size,λ i hi=>?_⟩;obtain ⟨po,pc,c0,c1⟩:=hc i hi;exact ⟨po,pc,(hk.cell (p:=⟨b,off+i,none⟩) hb (λ f=>f)).trans c0,c1.same hk⟩
theorem RgP.get {w:World} {ro:Option Addr} {Q:List (List (Int × List Int))} (h:RgP w ro Q) {i:Nat} (hi:i<Q.length):∃ b off po pc,ro=some ⟨b,off,none⟩∧w.cell? ⟨b,off+i,none⟩=some (.slice po Q[i].length pc)∧PaA w po Q[i]:=by
 rcases h with rfl | ⟨b,off,e,hb,hc⟩
 ·simp at hi
 ·obtain ⟨po,pc,c0,c1⟩:=hc i hi
  exact ⟨b,off,po,pc,e,c0,c1⟩
theorem Zgb {w:World} {po qo:Option Addr} {P:List (Int × List Int)} (hP:PaA w po P) (hQ:PaA w qo P) (hl:P.length<=140737488355328) (hm:∀ x∈P,x.2.length<=100000) (pc qc:Nat) :
  Calls Tryz.prog 55 #[.slice po P.length pc,.slice qo P.length qc] w λ e w' => e=.returned (.bool true)∧Za w w' := by
 go_enter Tryz.func55,Tryz.ntmps55
 go_upto_region 4 with fail
 go_loopw [5] (λ s5 wr=>∃ k:Nat,k<=P.length∧s5=.int .i64 (k:Int)∧Za w wr) (λ s5 _=>P.length-(intOf s5).toNat)
 case atStart=>exact ⟨0,Nat.zero_le _,rfl,Zc.refl _ _⟩
 case round=>
  obtain ⟨k,hk,rfl,hs⟩:=hrel
  by_cases hlt:k<P.length
  ·obtain ⟨b,off,ao,ac,rfl,c0,c1,a0⟩:=(hP.same hs).get hlt
   obtain ⟨b', off', bo,bc,rfl,d0,d1,b0⟩:=(hQ.same hs).get hlt;have hn:P[k].2.length<=maxLen:=by have:=hm _ (List.getElem_mem hlt);unfold maxLen;omega
   have CS:Hid (∀ ww,Za wr ww->Calls Tryz.prog 27 #[.slice ao P[k].2.length ac,.slice bo P[k].2.length bc] ww λ e w' => e=.returned (.bool true)∧Za ww w'):=λ ww hk=>by
    refine (Zc9 (acap:=ac) (bcap:=bc) (a0.same hk) (b0.same hk) hn).mono ?_;rintro e w' ⟨rfl,hk'⟩;exact ⟨by simp [Zcc],hk'⟩
   have HS:Hid (∀ ww,Za wr ww->ww.cell? ⟨b,off+k * 2+1,none⟩=some (.slice ao P[k].2.length ac)∧ww.cell? ⟨b', off' + k * 2+1,none⟩=some (.slice bo P[k].2.length bc)):=λ ww hk=>⟨(hk.cell (p:=⟨b,off+k * 2+1,none⟩) (World.block_lt_of_cell? _ _ c1) (λ f=>f)).trans c1,(hk.cell (p:=⟨b', off' + k * 2+1,none⟩) (World.block_lt_of_cell? _ _ d1) (λ f=>f)).trans d1⟩;have HI:Hid (∀ ww,Za wr ww->ww.cell? ⟨b,off+k * 2,none⟩=some (.int .i64 P[k].1)∧ww.cell? ⟨b', off' + k * 2,none⟩=some (.int .i64 P[k].1)):=λ ww hk=>⟨(hk.cell (p:=⟨b,off+k * 2,none⟩) (World.block_lt_of_cell? _ _ c0) (λ f=>f)).trans c0,(hk.cell (p:=⟨b', off' + k * 2,none⟩) (World.block_lt_of_cell? _ _ d0) (λ f=>f)).trans d0⟩;have C0:=HS.out wr (Zc.refl _ _);have kd:Za wr wr.drew:=Zc.drew (Zc.refl _ _);have i1:(0:Int)<=(k:Int):=by omega
   have i2:(k:Int)<(P.length:Int):=by omega
   generalize P[k].2.length=N at *;generalize P[k].1=z at *;clear a0 b0 c0 c1 d0 d1 hP hQ hn hm
   go_upto_region 6 with fail
   go_region_held3 (λ w' => w'.cell? ⟨b,off+k * 2+1,none⟩=some (.slice ao N ac)∧w'.cell? ⟨b', off' + k * 2+1,none⟩=some (.slice bo N bc)) (first | exact C0 | exact cc1) (first
    | (go_at_call 27;refine (CS.out _ kd).mono ?_;rintro e w2 ⟨rfl,k2⟩;have k3:=kd.trans' k2;have cc1:=HS.out w2 k3))
   all_goals
    obtain ⟨x0,x1⟩:=HI.out w2 k3;have k4:Za wr w2.drew:=k3.trans' ((Zc.refl _ _).drew);have zz:(z == z)=true:=by simp
    go_upto_region 7 with fail
    go_region
    go_wp2_with fail
    go_roundw
    case rel=>first | exact ⟨k+1,by omega,by go_num,hs.trans' k4⟩ | ((repeat apply Exists.intro);exact ⟨⟨k+1,by omega,by go_num,hs.trans' k4⟩,rfl⟩)
    case measure=>simp [intOf];omega
  ·go_wp2_with fail
   go_ret;exact ⟨rfl,hs⟩
structure CdA (w:World) (io po eo ro:Option Addr) (s:St9) (E:List Int) (Q:List (List (Int × List Int))):Prop where
 ins:Zaf w io s.1
 pth:Zaq w po s.2
 ent:Zh w eo E
 rgt:RgP w ro Q
theorem Zbz {w:World} {io po eo ro io' po' eo' ro' : Option Addr} {s:St9} {E:List Int} {Q:List (List (Int × List Int))} (h:CdA w io po eo ro s E Q) (h' : CdA w io' po' eo' ro' s E Q) (h1:s.1.length<=140737488355328) (h2:s.2.length<=140737488355328) (h3:E.length<=140737488355328) (h4:Q.length<=140737488355328) (h5:∀ q∈Q,q.length<=140737488355328∧∀ x∈q,x.2.length<=100000) (ic pc ec rc ic' pc' ec' rc' : Nat) :
  Calls Tryz.prog 16 #[.agg #[.slice io s.1.length ic,.slice po s.2.length pc,.slice eo E.length ec,.slice ro Q.length rc],.agg #[.slice io' s.1.length ic', .slice po' s.2.length pc', .slice eo' E.length ec', .slice ro' Q.length rc']] w λ e w' => e=.returned (.bool true)∧Za w w' := by
 obtain ⟨W1,hW1⟩:∃ W1,W1=(w.alloc (.cells #[.slice io s.1.length ic,.slice po s.2.length pc,.slice eo E.length ec,.slice ro Q.length rc] 51)).alloc (.cells #[.slice io' s.1.length ic', .slice po' s.2.length pc', .slice eo' E.length ec', .slice ro' Q.length rc'] 51):=⟨_,rfl⟩;have KW:Za w W1:=by rw [hW1];exact ((Zc.refl _ w).alloc _).alloc _
 have hb0:W1.heap[w.heap.size]? = some (.cells #[.slice io s.1.length ic,.slice po s.2.length pc,.slice eo E.length ec,.slice ro Q.length rc] 51 (0,0)):=by
  have k1:Za (w.alloc (.cells #[.slice io s.1.length ic,.slice po s.2.length pc,.slice eo E.length ec,.slice ro Q.length rc] 51)) W1:=by rw [hW1];exact (Zc.refl _ _).alloc _
  exact k1.at0 (heap_alloc_new w _)
 have hb1:W1.heap[w.heap.size+1]? = some (.cells #[.slice io' s.1.length ic', .slice po' s.2.length pc', .slice eo' E.length ec', .slice ro' Q.length rc'] 51 (0,0)):=by rw [hW1];exact Zp _ _ _
 have BX:Hid (∀ X,Za W1 X->(X.cell? ⟨w.heap.size,0,none⟩=some (.slice io s.1.length ic)∧X.cell? ⟨w.heap.size,1,none⟩=some (.slice po s.2.length pc)∧X.cell? ⟨w.heap.size,2,none⟩=some (.slice eo E.length ec)∧X.cell? ⟨w.heap.size,3,none⟩=some (.slice ro Q.length rc))∧X.cell? ⟨w.heap.size+1,0,none⟩=some (.slice io' s.1.length ic')∧X.cell? ⟨w.heap.size+1,1,none⟩=some (.slice po' s.2.length pc')∧X.cell? ⟨w.heap.size+1,2,none⟩=some (.slice eo' E.length ec')∧X.cell? ⟨w.heap.size+1,3,none⟩=some (.slice ro' Q.length rc')):=λ X hk=>by
  have a:=hk.at0 hb0;have b:=hk.at0 hb1;exact ⟨⟨Zb a 0,Zb a 1,Zb a 2,Zb a 3⟩,Zb b 0,Zb b 1,Zb b 2,Zb b 3⟩
 have C1:Hid (∀ X,Za W1 X->Calls Tryz.prog 46 #[.slice io s.1.length ic,.slice io' s.1.length ic'] X λ e w' => e=.returned (.bool true)∧Za X w'):=λ X hk=>Zdh ((h.ins.same KW).same hk) ((h'.ins.same KW).same hk) h1 ic ic';have C2:Hid (∀ X,Za W1 X->Calls Tryz.prog 54 #[.slice po s.2.length pc,.slice po' s.2.length pc'] X λ e w' => e=.returned (.bool true)∧Za X w'):=λ X hk=>Znv ((h.pth.same KW).same hk) ((h'.pth.same KW).same hk) h2 pc pc'
 have C3:Hid (∀ X,Za W1 X->Calls Tryz.prog 27 #[.slice eo E.length ec,.slice eo' E.length ec'] X λ e w' => e=.returned (.bool true)∧Za X w'):=λ X hk=>by
  refine (Zc9 ((h.ent.same KW).same hk) ((h'.ent.same KW).same hk) (by unfold maxLen;omega)).mono ?_;rintro e w' ⟨rfl,hk'⟩;exact ⟨by simp [Zcc],hk'⟩
 have RG:Hid (∀ i (hi:i<Q.length),∃ b off b' off' xo xc yo yc,ro=some ⟨b,off,none⟩∧ro' = some ⟨b', off', none⟩∧Hid (∀ X,Za W1 X->(X.cell? ⟨b,off+i,none⟩=some (.slice xo Q[i].length xc)∧X.cell? ⟨b', off' + i,none⟩=some (.slice yo Q[i].length yc))∧Calls Tryz.prog 55 #[.slice xo Q[i].length xc,.slice yo Q[i].length yc] X λ e w' => e=.returned (.bool true)∧Za X w')):=λ i hi=>by
  obtain ⟨b,off,xo,xc,e1,c1,c2⟩:=(h.rgt.same KW).get hi;obtain ⟨b', off', yo,yc,e2,d1,d2⟩:=(h'.rgt.same KW).get hi;obtain ⟨m1,m2⟩:=h5 _ (List.getElem_mem hi);exact ⟨b,off,b', off', xo,xc,yo,yc,e1,e2,λ X hk=>⟨⟨(hk.cell (p:=⟨b,off+i,none⟩) (World.block_lt_of_cell? _ _ c1) (λ f=>f)).trans c1,(hk.cell (p:=⟨b', off' + i,none⟩) (World.block_lt_of_cell? _ _ d1) (λ f=>f)).trans d1⟩,Zgb (c2.same hk) (d2.same hk) m1 m2 xc yc⟩⟩
 have HK:Hid (Za w W1):=KW;have HQ:Hid (Q.length<=140737488355328):=h4;have HR:Hid (∀ X,Za W1 X->X.cell? ⟨w.heap.size,3,none⟩=some (.slice ro Q.length rc)∧X.cell? ⟨w.heap.size+1,3,none⟩=some (.slice ro' Q.length rc')):=λ X hk=>⟨(BX.out X hk).1.2.2.2,(BX.out X hk).2.2.2.2⟩;obtain ⟨⟨x0,x1,x2,x3⟩,y0,y1,y2,y3⟩:=BX.out W1 (Zc.refl _ _);have CA:=C1.out W1 (Zc.refl _ _);clear hb0 hb1 h h' h1 h2 h3 h4 h5 KW C1;generalize s.1.length=I0 at *;generalize s.2.length=P0 at *;generalize E.length=E0 at *
 go_enter Tryz.func16,Tryz.ntmps16
 go_upto_region 1 with fail
 rw [<- hW1];clear hW1
 go_upto_region 2 with (first | (go_at_call 46;refine CA.mono ?_;rintro e w2 ⟨rfl,k2⟩;obtain ⟨⟨u0,u1,u2,u3⟩,v0,v1,v2,v3⟩:=BX.out w2 k2))
 have CB:=C2.out w2 k2
 go_upto_region 3 with (first | (go_at_call 54;refine CB.mono ?_;rintro e w3 ⟨rfl,k3⟩))
 have K3:=k2.trans' k3;obtain ⟨⟨p0,p1,p2,p3⟩,q0,q1,q2,q3⟩:=BX.out w3 K3;have CC:=C3.out w3 K3
 go_upto_region 4 with (first | (go_at_call 27;refine CC.mono ?_;rintro e w4 ⟨rfl,k4⟩))
 have K4:=K3.trans' k4;obtain ⟨r3,s3⟩:=HR.out w4 K4;clear CA CB CC C2 C3 BX x0 x1 x2 x3 y0 y1 y2 y3 u0 u1 u2 u3 v0 v1 v2 v3 p0 p1 p2 p3 q0 q1 q2 q3
 go_wp2_with fail
 go_loopw [8] (λ nv wr=>∃ i:Nat,i<=Q.length∧nv=.int .i64 (i:Int)∧Za W1 wr) (λ nv _=>Q.length-(intOf nv).toNat)
 case atStart=>exact ⟨0,Nat.zero_le _,rfl,K4⟩
 case round=>
  obtain ⟨i,hi,rfl,hs⟩:=hrel;obtain ⟨a3,b3⟩:=HR.out wr hs
  by_cases hlt:i<Q.length
  ·obtain ⟨b,off,b', off', xo,xc,yo,yc,rfl,rfl,RX⟩:=RG.out i hlt
   have i1:(0:Int)<=(i:Int):=by omega
   have i2:(i:Int)<(Q.length:Int):=by omega
   have hq:=HQ.out;have CS:Hid (∀ ww,Za wr ww->Calls Tryz.prog 55 #[.slice xo Q[i].length xc,.slice yo Q[i].length yc] ww λ e w' => e=.returned (.bool true)∧Za ww w'):=λ ww hk=>(RX.out ww (hs.trans' hk)).2;have HS:Hid (∀ ww,Za wr ww->(ww.cell? ⟨w.heap.size,3,none⟩=some (.slice (some ⟨b,off,none⟩) Q.length rc)∧ww.cell? ⟨w.heap.size+1,3,none⟩=some (.slice (some ⟨b', off', none⟩) Q.length rc'))∧ww.cell? ⟨b,off+i,none⟩=some (.slice xo Q[i].length xc)∧ww.cell? ⟨b', off' + i,none⟩=some (.slice yo Q[i].length yc)):=λ ww hk=>⟨HR.out ww (hs.trans' hk),(RX.out ww (hs.trans' hk)).1⟩;have C0:=HS.out wr (Zc.refl _ _);have kd:Za wr wr.drew:=Zc.drew (Zc.refl _ _);generalize Q[i].length=N at *;clear RX RG
   go_upto_region 9 with fail
   go_region_held3 (λ w' => (w'.cell? ⟨w.heap.size,3,none⟩=some (.slice (some ⟨b,off,none⟩) Q.length rc)∧w'.cell? ⟨w.heap.size+1,3,none⟩=some (.slice (some ⟨b', off', none⟩) Q.length rc'))∧w'.cell? ⟨b,off+i,none⟩=some (.slice xo N xc)∧w'.cell? ⟨b', off' + i,none⟩=some (.slice yo N yc)) (first | exact C0 | exact cc1) (first
    | (go_at_call 55;refine (CS.out _ kd).mono ?_;rintro e w5 ⟨rfl,k5⟩;have k6:=kd.trans' k5;have cc1:=HS.out w5 k6))
   all_goals
    go_wp2_with fail
    go_roundw
    case rel=>exact ⟨i+1,by omega,by go_num,hs.trans' k6⟩
    case measure=>simp [intOf];omega
  ·go_wp2_with fail
   go_ret;exact ⟨rfl,HK.out.trans' hs⟩
end
end Go.Proofs.YtjahpnbijefncaaGreat
