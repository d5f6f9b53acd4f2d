import Derived.Test.YtmjgnfkbnofjoaaGreatDoorSW21
import Derived.Test.YtmjgnfkbnofjoaaGreatDoorSW14
import Derived.Sort.CutIn
import Derived.Maps.OwnIn
import Derived.Test.YtmjgnfkbnofjoaaGreatDoorSW15
namespace Go.Proofs.YtmjgnfkbnofjoaaGreatDoor
set_option maxRecDepth 100000
set_option linter.unusedVariables false
open Go.RowKit Go.Shelf
attribute [local go_sem] Oper.semAt_some
set_option maxHeartbeats 16000000 in
theorem rightsOf_any {w:World} {bs b bt:Nat} {L:List Sym} {R:List Ru} {lv:Value} {vs:List Value} (hsg:Sg w.heap.size w bs L) (hst:StAt w b bt L R lv vs) :
  Calls Tryz.prog 87 #[.pointer (some ⟨bs,0,none⟩),.pointer (some ⟨b,0,none⟩)] w fun e w' => ∃ ro rc cs,e=.returned (.slice ro R.length rc)∧w'.ownsRow w.heap.size 103 1 (.slice ro R.length rc) R.length cs∧RtC w.heap.size w' cs (rightsL L R)∧Same0 w w' := by
 have hFn:∀ k,Fence.wide.fn k:=fun _=>trivial
 have hle:=hst.le
 refine (callsIn_wide (n:=9)).1 ?_
 refine callsIn_of_wp_marks Tryz.func87 rfl trivial ?_ rfl
 simp only [Tryz.ntmps87,List.size_toArray,List.length_cons,List.length_nil,Nat.reduceAdd,Nat.reduceSub,Array.replicate_succ,Array.replicate_zero,List.push_toArray,List.append_toArray,List.nil_append,List.cons_append]
 gi_wp2_with (gi_at_call 45;refine (crall_in Fence.wide _ trivial rfl _ _).mono ?_;rintro e w' ⟨rfl,rfl⟩)
 obtain ⟨W0,hW0⟩:∃ W0,W0=((w.alloc (.cells #[.pointer (some ⟨bs,0,none⟩)] 41)).alloc (.cells #[.slice none 0 0] 52)).alloc (.cells #[.pointer (some ⟨b,0,none⟩)] 43):=⟨_,rfl⟩
 have K0:Same0 w W0:=by rw [hW0];exact (((Kept.refl _ w).alloc _).alloc _).alloc _
 have z0:W0.heap.size=w.heap.size+3:=by rw [hW0];simp
 have b0:W0.heap[w.heap.size]? = some (.cells #[.pointer (some ⟨bs,0,none⟩)] 41 (0,0)):=by
  rw [hW0,heap_alloc_old _ _ (by simp;omega)];exact heap_alloc2_old _ _ _
 have b1:W0.heap[w.heap.size+1]? = some (.cells #[.slice none 0 0] 52 (0,0)):=by
  rw [hW0,heap_alloc_old _ _ (by simp)];exact heap_al_al _ _ _
 have b2:W0.cell? ⟨w.heap.size+1+1,0,none⟩=some (.pointer (some ⟨b,0,none⟩)):=by
  have:=heap_al_al (w.alloc (.cells #[.pointer (some ⟨bs,0,none⟩)] 41)) (.cells #[.slice none 0 0] 52) (.cells #[.pointer (some ⟨b,0,none⟩)] 43)
  simp only [World.size_alloc] at this
  rw [← hW0] at this
  exact cellAt this 0
 rw [← hW0]
 clear hW0
 have SG:Hid (∀ X,Same0 w X→Sg X.heap.size X bs L):=fun X hk=>sg_up (hsg.same hk) hk.size
 have OK:Hid (∀ k (h:k<R.length),((0<R[k].1.length∧R[k].1.length≤2000)∧0<R[k].2.length∧R[k].2.length≤2000)):=fun k h=>ok_len (hst.ok _ (List.getElem_mem h))
 refine wp_hands rfl (by omega) (gf:=80) (lb:=#[.pointer (some ⟨w.heap.size+1+1,0,none⟩)]) rfl trivial (enters_of Tryz.func80 (by kernel_rfl) rfl) (B:=w.heap.size) (by omega) (hands_rules hst K0 b2 (by omega)) (fun k vs W h=>by obtain ⟨_,_,_,_,_,rfl,_⟩:=h;rfl)
  (fun k W=>RgJ L R w bs k W) (fun k X Y h hk=>h.up hk) (fun k X l o o' h hl ho hw=>h.put hl ho (by omega)) ⟨K0,b0,.slice none 0 0,[],b1,World.ownsRow_nil _ _ _ _,by simpa [rightsL] using RtC.nil _ _⟩ ?round ?done
 case done=>
  rintro D W hD hj hK
  obtain ⟨j1,j2,v,cs,j3,j4,j5⟩:=hj.put (o' := .deferred none) hK rfl (by omega)
  rw [List.take_of_length_le (Nat.le_refl _)] at j5
  obtain ⟨ro,rc,rfl⟩:=row_shape j4
  have c3:W.cell? ⟨w.heap.size+1,0,none⟩=some (.slice ro R.length rc):=by
   have:=(World.putObj_heap_other (w:=W) (r:=D) (o:=.deferred none) (k:=w.heap.size+1) (by omega)).symm.trans j3
   exact cellAt this 0
  have HF:Hid _:=And.intro j4 (And.intro j5 j1)
  clear j1 j2 j3 j4 j5 hj
  gi_wp2_with fail
  refine ⟨by simp,.inl ⟨_,_,rfl,run_takeDeferred hK,?_⟩⟩
  exact ⟨_,results_tmp rfl _ _ _,ro,rc,cs,rfl,HF.out⟩
 case round=>
  rintro l k vs W hk hl hlW hj ⟨hk', g,c,g', c', rfl,t1,t2⟩
  obtain ⟨Wa,hWa⟩:∃ Wa,Wa=W.alloc (.cells #[.slice (some ⟨g,0,none⟩) R[k].1.length c,.slice (some ⟨g', 0,none⟩) R[k].2.length c'] 90):=⟨_,rfl⟩
  have ka:Same0 W Wa:=by rw [hWa];exact (Kept.refl _ _).alloc _
  have bx:Wa.heap[W.heap.size]? = some (.cells #[.slice (some ⟨g,0,none⟩) R[k].1.length c,.slice (some ⟨g', 0,none⟩) R[k].2.length c'] 90 (0,0)):=by rw [hWa];exact heap_alloc_new _ _
  gi_wp2_with fail
  rw [← hWa]
  clear hWa
  refine ⟨Rnd.same ka (by omega),fun o o' ho hoc hoc' => ?_⟩
  have hpk:Kept (fun q=>q=l) Wa (Wa.putObj l o'):=kept_put
  have no:∀ q,(fun q=>q=l) q→∀ cur,Wa.heap[q]? ≠ some (.cells cur 3 (0,0)):=fun q e cur hc=>by
   have e' : q=l:=e
   rw [e', ho] at hc;cases hc;cases hoc
  have hjb:=(hj.up ka).put (o' := o') ho hoc (by omega)
  have t1b:=(t1.same ka).kept hpk no
  have t2b:=(t2.same ka).kept hpk no
  have bxb:=putObj_at (o' := o') ho hoc bx rfl
  have lob:(Wa.putObj l o').heap[l]? = some o' := World.putObj_heap_same (lt_of_at ho)
  obtain ⟨Wb,hWb⟩:∃ Wb,Wb=Wa.putObj l o' := ⟨_,rfl⟩
  rw [← hWb] at hjb t1b t2b bxb lob ⊢
  have hzb:W0.heap.size≤Wb.heap.size:=by have:=lt_of_at lob;omega
  clear hWb hpk no ho t1 t2 bx hj
  obtain ⟨⟨p1,m1⟩,p2,m2⟩:=OK.out k hk'
  obtain ⟨N,hN⟩:∃ N,N=R[k].2.length:=⟨_,rfl⟩
  obtain ⟨Z,hZs,hmk⟩:∃ Z:Array Value,Z.size=N * 2∧∀ w:World,(Instr.makeSlice 103 (.int .i64 (N:Int)) (.int .i64 (N:Int))).run Tryz.prog w=.ok (.slice (some ⟨w.heap.size,0,none⟩) N N) (w.alloc (.cells Z 105)):=by
   obtain ⟨i,hi,hz0,hz1,hz2⟩:=info_parts info_part
   refine ⟨madeCells (Value.agg #[.int .i64 0,.slice none 0 0]).cells (N * 2),size_madeCells _ _,fun w=>?_⟩
   have:=run_make w 103 105 i _ Tryz.underlying103 hi hz0 .i64 .i64 (N:Int) (N:Int) (by omega) (by omega) (by rw [hz2];omega) (by omega)
   simpa [hz1] using this
  have y0:=cellAt bxb 0
  have y1:=cellAt bxb 1
  simp only [List.getElem?_toArray,List.getElem?_cons_zero,List.getElem?_cons_succ] at y0 y1
  rw [← hN] at y1 p2 m2
  have HN:Hid (N=R[k].2.length):=hN
  have G0:Wb.heap.size=Wb.heap.size:=rfl
  obtain ⟨Wc,hWc⟩:∃ Wc,Wc=Wb.alloc (.cells Z 105):=⟨_,rfl⟩
  have kc:Same0 Wb Wc:=by rw [hWc];exact (Kept.refl _ _).alloc _
  obtain ⟨gp,hgp⟩:∃ gp,gp=Wb.heap.size:=⟨_,rfl⟩
  have bp:Wc.heap[gp]? = some (.cells Z 105 (0,0)):=by rw [hWc,hgp];exact heap_alloc_new _ _
  have hgw:w.heap.size≤gp:=by omega
  have INV0:Hid (Same0 Wb Wc∧PtC w.heap.size Wc gp 0 (partsL L R[k])):=⟨kc,Z,bp,by rw [hZs,HN.out];simp [partsL],fun i hi h0=>by omega⟩
  have BXX:Hid (∀ X,Same0 Wb X→X.cell? ⟨W.heap.size,0,none⟩=some (.slice (some ⟨g,0,none⟩) R[k].1.length c)∧X.cell? ⟨W.heap.size,1,none⟩=some (.slice (some ⟨g', 0,none⟩) N c')∧X.cell? ⟨w.heap.size,0,none⟩=some (.pointer (some ⟨bs,0,none⟩))∧TmAt X g c R[k].1∧TmAt X g' c' R[k].2∧RgJ L R w bs k X):=fun X hx=>by
   have h1:=hx.at0 bxb
   have c1:=cellAt h1 1
   simp only [List.getElem?_toArray,List.getElem?_cons_zero,List.getElem?_cons_succ] at c1
   rw [← HN.out] at c1
   exact ⟨cellAt h1 0,c1,cellAt (hx.at0 hjb.bx) 0,t1b.same hx,t2b.same hx,hjb.up hx⟩
  have HX:Hid (∀ X i (hi:i<N),Same0 Wb X→X.cell? ⟨g', i,none⟩=some (.int .i64 (R[k].2[i]'(by rw [← HN.out];exact hi)))):=fun X i hi hx=>by
   obtain ⟨_,_,_,_,h5,_⟩:=BXX.out X hx
   have hi' : i<R[k].2.length:=by rw [← HN.out];exact hi
   have h6:=h5.cells (g:=g') rfl i (.int .i64 R[k].2[i]) (iv_get hi')
   rw [addr_add] at h6
   simpa using h6
  have CPT:Hid (∀ X (x:Int),Same0 Wb X→Calls Tryz.prog 127 #[.pointer (some ⟨bs,0,none⟩),.slice (some ⟨g,0,none⟩) R[k].1.length c,.int .i64 x] X fun e Y=>∃ so sc,e=.returned (.agg #[.int .i64 (partP L R[k].1 x).1,.slice so (partP L R[k].1 x).2.length sc])∧Hid (ArgT Y so (partP L R[k].1 x).2 sc∧∀ a,so=some a→X.heap.size≤a.block)∧Same0 X Y):=fun X x hx=>by
   obtain ⟨_,_,_,h4,_,h6⟩:=BXX.out X hx
   obtain ⟨ao,ac,e1,i1,i2,_⟩:=h4.ints
   simp only [Value.slice.injEq,true_and] at e1
   obtain ⟨rfl,rfl⟩:=e1
   refine (partOf_any (SG.out X h6.same) i1 m1 i2 x).mono ?_
   rintro e Y ⟨so,sc,rfl,hr,hk⟩
   have hlen:(partP L R[k].1 x).2.length≤2000:=by
    unfold partP
    split
    ·simp
    ·exact pathA_len L _ _ m1
   obtain ⟨ao,ac,e2,q1,q2⟩:=hr.arg (by omega)
   simp only [Value.slice.injEq,true_and] at e2
   obtain ⟨rfl,rfl⟩:=e2
   exact ⟨so,sc,rfl,⟨q1,q2⟩,hk⟩
  clear hN hZs kc bp OK SG hsg hst
  have HGP:Hid (gp=Wb.heap.size):=hgp
  have HWC:Hid (Wc=Wb.alloc (.cells Z 105)):=hWc
  clear hgp hWc
  have y1c:(Wb.alloc (.cells Z 105)).cell? ⟨W.heap.size,1,none⟩=some (.slice (some ⟨g', 0,none⟩) N c'):=cell_al y1 _
  gi_wp2_with fail
  rw [← HWC.out,← HGP.out]
  clear HWC hmk y1c
  have NW:(N:Int)≤2000:=by omega
  gi_loopw [22] (fun s22 wr=>∃ i:Nat,i≤N∧s22=.int .i64 (i:Int)∧Same0 Wb wr∧PtC w.heap.size wr gp i (partsL L R[k])) (fun s22 _=>N-(intOf s22).toNat)
  case atStart=>exact ⟨0,Nat.zero_le _,rfl,INV0.out⟩
  case round=>
   clear INV0 y0 y1
   obtain ⟨i,hi,rfl,hs,hP⟩:=hrel
   obtain ⟨y0,y1,y2, -, -, -⟩:=BXX.out wr hs
   by_cases hlt:i<N
   ·have cx:=HX.out wr i hlt hs
    have hiQ:i<(partsL L R[k]).length:=by rw [HN.out] at hlt;simpa [partsL] using hlt
    have eQ:(partsL L R[k])[i]=partP L R[k].1 (R[k].2[i]'(by rw [← HN.out];exact hlt)):=by simp [partsL]
    generalize R[k].2[i]'(by rw [← HN.out];exact hlt)=x at *
    have C:=CPT.out wr x hs
    have NX:Hid (∀ Y so sc,Same0 wr Y→(ArgT Y so (partP L R[k].1 x).2 sc∧∀ a,so=some a→wr.heap.size≤a.block)→(∃ o1 o2,Y.cell? ⟨gp,i * 2,none⟩=some o1∧Y.cell? ⟨gp,i * 2+1,none⟩=some o2)∧Y.frozen? ⟨gp,i * 2,none⟩=false∧Y.frozen? ⟨gp,i * 2+1,none⟩=false∧Same0 Wb ((Y.setCell ⟨gp,i * 2,none⟩ (.int .i64 (partP L R[k].1 x).1)).setCell ⟨gp,i * 2+1,none⟩ (.slice so (partP L R[k].1 x).2.length sc))∧PtC w.heap.size ((Y.setCell ⟨gp,i * 2,none⟩ (.int .i64 (partP L R[k].1 x).1)).setCell ⟨gp,i * 2+1,none⟩ (.slice so (partP L R[k].1 x).2.length sc)) gp (i+1) (partsL L R[k])):=fun Y so sc hY ha=>by
     have hwz:=hs.size
     rw [← eQ] at ha ⊢
     obtain ⟨q1,q2,q3,q4⟩:=(hP.same hY).put hiQ ha.1 (fun a e=>by have:=ha.2 a e;have:=HGP.out;omega)
     refine ⟨q2,q3,q4,?_,q1⟩
     have hge:Wb.heap.size≤gp:=by rw [HGP.out];exact Nat.le_refl _
     exact Same0.own (Same0.own (hs.trans' hY) hge _) hge _
    generalize (partP L R[k].1 x).1=zs at *
    generalize (partP L R[k].1 x).2=zp at *
    have i1:(0:Int)≤(i:Int):=by omega
    have i2:(i:Int)<(N:Int):=by omega
    clear hP eQ HX CPT BXX
    gi_wp2_with (gi_at_call 127;refine (CallsIn.inRound l (callsIn_wide.2 C)).mono ?_;rintro e w2 ⟨so,sc,rfl,ha,k2⟩;obtain ⟨⟨o1,o2,n1,n2⟩,n3,n4,n5,n6⟩:=NX.out w2 so sc k2 ha.out)
    go_roundw
    case rel=>exact ⟨i+1,by omega,by go_num,n5,n6⟩
    case measure=>simp [intOf];omega
   ·obtain rfl:i=N:=by omega
    obtain ⟨-, -, -, -, -,j1,j2,v,cs,j3,j4,j5⟩:=BXX.out wr hs
    have hQN:(partsL L R[k]).length=i:=by rw [HN.out];simp [partsL]
    have c3:=cellAt j3 0
    simp only [List.getElem?_toArray,List.getElem?_cons_zero] at c3
    obtain ⟨ro,rc,rfl⟩:=row_shape j4
    obtain ⟨i0,hi0,hz0,hz1,hz2⟩:=info_parts info_parts9
    have c3a:(wr.alloc (.cells #[.slice (some ⟨gp,0,none⟩) i i] 103)).cell? ⟨w.heap.size+1,0,none⟩=some (.slice ro k rc):=cell_al c3 _
    have b1:k+1≤maxLen:=by unfold maxLen;omega
    have b2:(k+1) * 24≤140737488355328:=by omega
    have b3:w.heap.size≤(wr.alloc (.cells #[.slice (some ⟨gp,0,none⟩) i i] 103)).heap.size:=by have:=j1.size;simp;omega
    have MORE:Hid (∀ w1 v', w1.ownsRow w.heap.size 103 1 v' (k+1) (cs ++ [.slice (some ⟨gp,0,none⟩) i i])→Kept (fun q=>(Value.slice ro k rc).ownBlock=some q) wr w1→(w1.cell? ⟨w.heap.size+1,0,none⟩=some (.slice ro k rc)∧w1.frozen? ⟨w.heap.size+1,0,none⟩=false)∧RgJ L R w bs (k+1) (w1.setCell ⟨w.heap.size+1,0,none⟩ v')∧Rnd W0.heap.size w.heap.size Wb (w1.setCell ⟨w.heap.size+1,0,none⟩ v')):=fun w1 v' h1 h2=>by
     rw [← hQN] at hP h1
     obtain ⟨q1,q2,q3⟩:=RgJ.more (D:=W0.heap.size) j1 j2 j3 j4 j5 hk' hP hgw h1 h2
     exact ⟨⟨cellAt q1 0,frozenAt q1 0⟩,q2,(Rnd.same hs (by omega)).trans q3⟩
    have hj4:Hid _:=j4
    clear hP HX CPT BXX j1 j2 j3 j5
    gi_wp2_with (gi_at_builtin;refine wpListIn_append_own _ rfl _ _ 52 rfl w.heap.size 103 i0 (.slice none 0 0) 1 24 Tryz.underlying52 hi0 hz0 hz1 hz2 rfl (by decide) (.slice ro k rc) k cs rfl (World.ownsRow.alloc hj4.out _) ⟨wr.heap.size,0,none⟩ 1 1 [.slice (some ⟨gp,0,none⟩) i i] rfl rfl (cell_one_new _ _ _) (by simp [Value.oneCell']) b1 b2 b3 ?_;intro v' w1 hown' hgrow _;obtain ⟨g9,cap9,rfl⟩:=ownsRow_succ hown'; obtain ⟨⟨m1', m2'⟩,m3,m4⟩:=MORE.out w1 _ hown' (Kept.grown (Kept.alloc (Kept.refl _ wr) _) hgrow (fun _ e _=>e)))
    rw [z0] at m4
    exact m4
def CmpOut (L:List Sym) (R:List Ru) (w:World) (e:Ending) (w' : World):Prop:=
 ∃ io ic po pc eo ec ro rc cs,e=.returned (.tuple #[.agg #[.slice io (cmpS L R L.length).1.1.length ic,.slice po (cmpS L R L.length).1.2.length pc,.slice eo (cmpS L R L.length).2.length ec,.slice ro R.length rc],.nilIface])∧Lay (fun q=>q<w.heap.size) w' (.slice io (cmpS L R L.length).1.1.length ic) (.slice po (cmpS L R L.length).1.2.length pc) (cmpS L R L.length).1∧Row w.heap.size w' (.slice eo (cmpS L R L.length).2.length ec) (cmpS L R L.length).2∧w'.ownsRow w.heap.size 103 1 (.slice ro R.length rc) R.length cs∧RtC w.heap.size w' cs (rightsL L R)∧Same0 w w'
theorem put4_raw {w3:World} {n:Nat} {a0 a1 a2 a3:Value} {t:TypeId} (hb:w3.heap[n]? = some (.cells #[a0,a1,a2,a3] t (0,0))) (x0 x1 x2 x3:Value):((((w3.setCell ⟨n,0,none⟩ x0).setCell ⟨n,1,none⟩ x1).setCell ⟨n,2,none⟩ x2).setCell ⟨n,3,none⟩ x3).heap[n]? = some (.cells #[x0,x1,x2,x3] t (0,0))∧Kept (fun q=>q=n) w3 ((((w3.setCell ⟨n,0,none⟩ x0).setCell ⟨n,1,none⟩ x1).setCell ⟨n,2,none⟩ x2).setCell ⟨n,3,none⟩ x3):=by
 have s3:=setAt (setAt (setAt (setAt hb 0 x0) 1 x1) 2 x2) 3 x3
 have k1:=kept_at w3 n 0 x0
 have k2:=Kept.trans k1 (kept_at _ n 1 x1) (fun _ _ e=>e)
 have k3:=Kept.trans k2 (kept_at _ n 2 x2) (fun _ _ e=>e)
 have k4:=Kept.trans k3 (kept_at _ n 3 x3) (fun _ _ e=>e)
 exact ⟨s3,k4⟩
theorem PtC.low {base base' : Nat} {W:World} {g k:Nat} {Q:List (Int × List Int)} (h:PtC base W g k Q) (hb:base' ≤ base):PtC base' W g k Q:=by
 obtain ⟨cur,h1,h2,h3⟩:=h
 refine ⟨cur,h1,h2,fun i hi hik=>?_⟩
 obtain ⟨ao,ac,a,b,c,d⟩:=h3 i hi hik
 exact ⟨ao,ac,a,b,c,fun x e=>Nat.le_trans hb (d x e)⟩
theorem RtC.low {base base' : Nat} {W:World} {cs:List Value} {Q:List (List (Int × List Int))} (h:RtC base W cs Q) (hb:base' ≤ base):RtC base' W cs Q:=
 ⟨h.1,fun i hi=>by
  obtain ⟨g,gc,a,b,c⟩:=h.2 i hi
  exact ⟨g,gc,a,Nat.le_trans hb b,c.low hb⟩⟩
theorem cnil_ptr (b:Nat) (w:World):(binOp .eql 43 (.pointer (some ⟨b,0,none⟩)) (.pointer none)).run Tryz.prog w=.ok (.bool false) w:=by kernel_rfl
theorem cnil_err (w:World):(binOp .neq 46 .nilIface .nilIface).run Tryz.prog w=.ok (.bool false) w:=by kernel_rfl
set_option maxHeartbeats 32000000 in
theorem compile_ok {w:World} {b bs:Nat} {L:List Sym} {R:List Ru} {lv:Value} {vs:List Value} (h:StAt w b bs L R lv vs) (hall:∀ k,k<L.length→defB L (k:Int)=true→∃ t,treeF L R k=.ok t) :
  Calls Tryz.prog 50 #[.pointer (some ⟨b,0,none⟩)] w (CmpOut L R w):=by
 have hFn:∀ k,Fence.wide.fn k:=fun _=>trivial
 have hpn:=cnil_ptr
 have hen:=cnil_err
 have hle:=h.le
 have hok:=h.ok
 have hArs:=h.sig.2
 have hL64:L.length≤64:=by obtain ⟨⟨sv,mr,hs,_⟩,_⟩:=h.sig;exact hs.len
 obtain ⟨W1,hW1⟩:∃ W1,W1=((w.alloc (.cells #[.pointer (some ⟨b,0,none⟩)] 43)).alloc (.cells #[.slice none 0 0,.slice none 0 0,.slice none 0 0,.slice none 0 0] 54)).alloc (.cells #[.nilIface] 46):=⟨_,rfl⟩
 have KW:Same0 w W1:=by rw [hW1];exact (((Kept.refl _ w).alloc _).alloc _).alloc _
 have ez:W1.heap.size=w.heap.size+1+1+1:=by rw [hW1];simp
 have BK:Hid (∀ ww,Same0 W1 ww→ww.heap[w.heap.size]? = some (.cells #[.pointer (some ⟨b,0,none⟩)] 43 (0,0))∧ww.heap[w.heap.size+1]? = some (.cells #[.slice none 0 0,.slice none 0 0,.slice none 0 0,.slice none 0 0] 54 (0,0))∧ww.heap[w.heap.size+1+1]? = some (.cells #[.nilIface] 46 (0,0))):=fun ww hk=>by
  have k1:Same0 (w.alloc (.cells #[.pointer (some ⟨b,0,none⟩)] 43)) W1:=by rw [hW1];exact ((Kept.refl _ _).alloc _).alloc _
  have k2:Same0 ((w.alloc (.cells #[.pointer (some ⟨b,0,none⟩)] 43)).alloc (.cells #[.slice none 0 0,.slice none 0 0,.slice none 0 0,.slice none 0 0] 54)) W1:=by rw [hW1];exact (Kept.refl _ _).alloc _
  have h3:=heap_al_al (w.alloc (.cells #[.pointer (some ⟨b,0,none⟩)] 43)) (.cells #[.slice none 0 0,.slice none 0 0,.slice none 0 0,.slice none 0 0] 54) (.cells #[.nilIface] 46)
  rw [World.size_alloc] at h3
  exact ⟨hk.at0 (k1.at0 (heap_alloc_new w _)),hk.at0 (k2.at0 (heap_al_al _ _ _)),hk.at0 (by rw [hW1];exact h3)⟩
 have r0:W1.cell? ⟨w.heap.size,0,none⟩=some (.pointer (some ⟨b,0,none⟩)):=cellAt (BK.out W1 (Kept.refl _ _)).1 0
 have CS:=(callsIn_wide (n:=8)).2 (ssig_any (h.same KW))
 refine (callsIn_wide (n:=9)).1 ?_
 refine callsIn_of_wp_marks Tryz.func50 rfl trivial ?_ rfl
 simp only [Tryz.ntmps50,List.size_toArray,List.length_cons,List.length_nil,Nat.reduceAdd,Nat.reduceSub,Array.replicate_succ,Array.replicate_zero,List.push_toArray,List.append_toArray,List.nil_append,List.cons_append]
 gi_upto_region 1 with fail
 rw [← hW1]
 clear hW1
 gi_upto_region 4 with (gi_at_call 47;refine CS.mono ?_;rintro e w1 ⟨bt,rfl,hbt,sv,mr,hsig,hfoot,k1'⟩)
 have k1:Same0 W1 w1:=k1'
 have K1:Same0 w w1:=KW.trans' k1
 have hzw:=k1.size
 gi_wp2_with (gi_at_call 23;refine (all_in Fence.wide _ trivial rfl _ _).mono ?_;rintro e w' ⟨rfl,rfl⟩)
 obtain ⟨W0,hW0⟩:∃ W0,W0=((w1.alloc (.cells #[.slice none 0 0,.slice none 0 0] 174)).alloc (.cells #[.slice none 0 0] 51)).alloc (.cells #[.pointer (some ⟨bt,0,none⟩)] 41):=⟨_,rfl⟩
 have K0:Same0 w1 W0:=by rw [hW0];exact (((Kept.refl _ _).alloc _).alloc _).alloc _
 have z0:W0.heap.size=w1.heap.size+3:=by rw [hW0];simp
 have b0:W0.heap[w1.heap.size]? = some (.cells #[.slice none 0 0,.slice none 0 0] 174 (0,0)):=by
  rw [hW0,heap_alloc_old _ _ (by simp;omega)];exact heap_alloc2_old _ _ _
 have b1:W0.heap[w1.heap.size+1]? = some (.cells #[.slice none 0 0] 51 (0,0)):=by
  rw [hW0,heap_alloc_old _ _ (by simp)];exact heap_al_al _ _ _
 have b2:W0.cell? ⟨w1.heap.size+1+1,0,none⟩=some (.pointer (some ⟨bt,0,none⟩)):=by
  have:=heap_al_al (w1.alloc (.cells #[.slice none 0 0,.slice none 0 0] 174)) (.cells #[.slice none 0 0] 51) (.cells #[.pointer (some ⟨bt,0,none⟩)] 41)
  simp only [World.size_alloc] at this
  rw [← hW0] at this
  exact cellAt this 0
 rw [← hW0]
 clear hW0
 have START:CpJ L R w1 0 W0:=⟨K0,.slice none 0 0,b1,World.ownsRow_nil _ _ _ _,.slice none 0 0,.slice none 0 0,b0,(fun e=>by rcases e with e | e | e <;> first | omega | (simp [Value.ownBlock] at e)),Lay.nil _ _⟩
 have ST:Hid (∀ X,Same0 w1 X→StAt X b bs L R lv vs∧X.cell? ⟨w.heap.size,0,none⟩=some (.pointer (some ⟨b,0,none⟩))):=fun X hk=>⟨h.same (K1.trans' hk),cellAt (BK.out X (k1.trans' hk)).1 0⟩
 refine wp_hands rfl (by omega) (gf:=51) (lb:=#[.pointer (some ⟨w1.heap.size+1+1,0,none⟩)]) rfl trivial (enters_of Tryz.func51 (by kernel_rfl) rfl) (B:=w1.heap.size) (by omega) (hands_syms hsig K0 b2 (by omega)) (fun k vs W h=>by obtain ⟨_,rfl⟩:=h;rfl)
  (fun k W=>CpJ L R w1 k W) (fun k X Y h hk=>h.up hk) (fun k X l o o' h hl ho hw=>h.put hl ho (by omega)) START ?round ?done
 case done=>
  rintro D W hD hj hK
  obtain ⟨j1,ev,j2,j3,vi,vp,j4,j5,j6⟩:=hj
  obtain ⟨eo,ec,rfl⟩:=row_shape j3
  obtain ⟨io,ic,rfl⟩:=row_shape j6.ri
  obtain ⟨pvs,j7,j8⟩:=j6.rp
  obtain ⟨po,pc,rfl⟩:=row_shape j7
  have SS:Hid (∀ X,Same0 W X→(X.cell? ⟨w1.heap.size,0,none⟩=some (.slice io (cmpS L R L.length).1.1.length ic)∧X.cell? ⟨w1.heap.size,1,none⟩=some (.slice po (cmpS L R L.length).1.2.length pc)∧X.cell? ⟨w1.heap.size+1,0,none⟩=some (.slice eo (cmpS L R L.length).2.length ec)∧X.cell? ⟨w.heap.size,0,none⟩=some (.pointer (some ⟨b,0,none⟩)))∧X.heap[w.heap.size+1]? = some (.cells #[.slice none 0 0,.slice none 0 0,.slice none 0 0,.slice none 0 0] 54 (0,0))∧X.heap[w.heap.size+1+1]? = some (.cells #[.nilIface] 46 (0,0))∧X.heap[D]? = some (.deferred (some []))):=fun X hk=>by
   obtain ⟨a1,a2,a3⟩:=BK.out X ((k1.trans' j1).trans' hk)
   exact ⟨⟨cellAt (hk.at0 j4) 0,cellAt (hk.at0 j4) 1,cellAt (hk.at0 j2) 0,cellAt a1 0⟩,a2,a3,hk.at0 hK⟩
  have CR:Hid (∀ X,Same0 W X→Calls Tryz.prog 87 #[.pointer (some ⟨bt,0,none⟩),.pointer (some ⟨b,0,none⟩)] X fun e w' => ∃ ro rc cs,e=.returned (.slice ro R.length rc)∧Hid (w'.ownsRow X.heap.size 103 1 (.slice ro R.length rc) R.length cs∧RtC X.heap.size w' cs (rightsL L R))∧Same0 X w'):=fun X hk=>by
   have hsX:SigAt X bt L sv mr:=hsig.kept (j1.trans' hk) (fun _ _ f=>f)
   refine (rightsOf_any ⟨⟨sv,mr,hsX,fun q hq=>sig_foot_lt hsX q hq⟩,hArs⟩ (ST.out X (j1.trans' hk)).1).mono ?_
   rintro e w' ⟨ro,rc,cs,rfl,q1,q2,q3⟩
   exact ⟨ro,rc,cs,rfl,⟨q1,q2⟩,q3⟩
  have hzW:=j1.size
  have LAYW:Hid (Lay (fun q=>q<w1.heap.size) W (.slice io (cmpS L R L.length).1.1.length ic) (.slice po (cmpS L R L.length).1.2.length pc) (cmpS L R L.length).1∧Row w1.heap.size W (.slice eo (cmpS L R L.length).2.length ec) (cmpS L R L.length).2):=⟨j6.mono (fun q _ e=>.inl e),j3⟩
  obtain ⟨⟨s0,s1,s2,s3⟩,_,_,_⟩:=SS.out W (Kept.refl _ _)
  have CC0:=And.intro s0 (And.intro s1 (And.intro s2 s3))
  have kd:Same0 W W.drew:=Kept.drew (Kept.refl _ _)
  have HJ1:Hid (Same0 w W):=K1.trans' j1
  clear j2 j3 j4 j5 j6 j7 j8 START
  obtain ⟨I1,hI1⟩:∃ I1,I1=(cmpS L R L.length).1.1.length:=⟨_,rfl⟩
  obtain ⟨P1,hP1⟩:∃ P1,P1=(cmpS L R L.length).1.2.length:=⟨_,rfl⟩
  obtain ⟨E1,hE1⟩:∃ E1,E1=(cmpS L R L.length).2.length:=⟨_,rfl⟩
  have HIP:Hid (I1=(cmpS L R L.length).1.1.length∧P1=(cmpS L R L.length).1.2.length∧E1=(cmpS L R L.length).2.length):=⟨hI1,hP1,hE1⟩
  rw [← hI1,← hP1,← hE1] at CC0 SS LAYW
  clear hI1 hP1 hE1 s0 s1 s2 s3
  have SX:Hid (∀ X,Same0 W X→X.cell? ⟨w1.heap.size,0,none⟩=some (.slice io I1 ic)∧X.cell? ⟨w1.heap.size,1,none⟩=some (.slice po P1 pc)∧X.cell? ⟨w1.heap.size+1,0,none⟩=some (.slice eo E1 ec)∧X.cell? ⟨w.heap.size,0,none⟩=some (.pointer (some ⟨b,0,none⟩))):=fun X hk=>(SS.out X hk).1
  have SK:Hid (∀ X Y,Same0 W X→Kept (fun q=>q=w.heap.size+1∨q=w.heap.size+1+1) X Y→Y.cell? ⟨w1.heap.size,0,none⟩=some (.slice io I1 ic)∧Y.cell? ⟨w1.heap.size,1,none⟩=some (.slice po P1 pc)∧Y.cell? ⟨w1.heap.size+1,0,none⟩=some (.slice eo E1 ec)∧Y.cell? ⟨w.heap.size,0,none⟩=some (.pointer (some ⟨b,0,none⟩))):=fun X Y hk hy=>by
   obtain ⟨a0,a1,a2,a3⟩:=SX.out X hk
   have far:∀ q,w1.heap.size≤q∨q=w.heap.size→¬ (q=w.heap.size+1∨q=w.heap.size+1+1):=fun q e e2=>by omega
   exact ⟨(hy.cell (p:=⟨w1.heap.size,0,none⟩) (World.block_lt_of_cell? _ _ a0) (far _ (.inl (Nat.le_refl _)))).trans a0,(hy.cell (p:=⟨w1.heap.size,1,none⟩) (World.block_lt_of_cell? _ _ a1) (far _ (.inl (Nat.le_refl _)))).trans a1,(hy.cell (p:=⟨w1.heap.size+1,0,none⟩) (World.block_lt_of_cell? _ _ a2) (far _ (.inl (Nat.le_succ _)))).trans a2,(hy.cell (p:=⟨w.heap.size,0,none⟩) (World.block_lt_of_cell? _ _ a3) (far _ (.inr rfl))).trans a3⟩
  gi_wp2_with fail
  refine wpIn_wide.2 ?_
  refine Code.wp_mono (Q:=Exit.then _ (fun _ _ _=>False)) (fun e a w h=>by cases e <;> first | exact h | exact h.elim) ?_
  refine wp_region_held_drew (S:=fun w' => w'.cell? ⟨w1.heap.size,0,none⟩=some (.slice io I1 ic)∧w'.cell? ⟨w1.heap.size,1,none⟩=some (.slice po P1 pc)∧w'.cell? ⟨w1.heap.size+1,0,none⟩=some (.slice eo E1 ec)∧w'.cell? ⟨w.heap.size,0,none⟩=some (.pointer (some ⟨b,0,none⟩))) (by kernel_rfl) CC0 (fun hHeld=>?_)
  refine wpAnyH_take (i:=0) (v:=.pointer (some ⟨w1.heap.size,0,none⟩)) rfl (by kernel_rfl) (by kernel_rfl) (by kernel_rfl) (fun _ _ _ h=>h) (.inl ⟨rfl,fun w' hS=>by obtain ⟨h0,h1,h2,h3⟩:=hS;simp [go_sem]⟩) hHeld ?_
  refine wpAnyH_take (i:=1) (v:=.slice io I1 ic) rfl (by kernel_rfl) (by kernel_rfl) (by kernel_rfl) (fun _ _ _ h=>h) (.inl ⟨rfl,fun w' hS=>by obtain ⟨h0,h1,h2,h3⟩:=hS;simp [go_sem,h0]⟩) hHeld ?_
  refine wpAnyH_take (i:=2) (v:=.pointer (some ⟨w1.heap.size,1,none⟩)) rfl (by kernel_rfl) (by kernel_rfl) (by kernel_rfl) (fun _ _ _ h=>h) (.inl ⟨rfl,fun w' hS=>by obtain ⟨h0,h1,h2,h3⟩:=hS;simp [go_sem]⟩) hHeld ?_
  refine wpAnyH_take (i:=3) (v:=.slice po P1 pc) rfl (by kernel_rfl) (by kernel_rfl) (by kernel_rfl) (fun _ _ _ h=>h) (.inl ⟨rfl,fun w' hS=>by obtain ⟨h0,h1,h2,h3⟩:=hS;simp [go_sem,h1]⟩) hHeld ?_
  refine wpAnyH_take (i:=4) (v:=.slice eo E1 ec) rfl (by kernel_rfl) (by kernel_rfl) (by kernel_rfl) (fun _ _ _ h=>h) (.inl ⟨rfl,fun w' hS=>by obtain ⟨h0,h1,h2,h3⟩:=hS;simp [go_sem,h2]⟩) hHeld ?_
  refine wpAnyH_take (i:=5) (v:=.pointer (some ⟨bt,0,none⟩)) rfl (by kernel_rfl) (by kernel_rfl) (by kernel_rfl) (fun _ _ _ h=>h) (.inl ⟨rfl,fun w' hS=>by obtain ⟨h0,h1,h2,h3⟩:=hS;simp [go_sem]⟩) hHeld ?_
  refine wpAnyH_take (i:=6) (v:=.pointer (some ⟨b,0,none⟩)) rfl (by kernel_rfl) (by kernel_rfl) (by kernel_rfl) (fun _ _ _ h=>h) (.inl ⟨rfl,fun w' hS=>by obtain ⟨h0,h1,h2,h3⟩:=hS;simp [go_sem,h3]⟩) hHeld ?_
  refine wpAnyH_ready (rs:=[7]) (by kernel_rfl) (by simp) ?_
  refine AllReadyH.cons rfl (fun K hK=>?_) AllReadyH.nil
  refine step_callx rfl (CR.out _ kd) (by simp [go_sem]) ?_
  rintro e w3 ⟨ro,rc,cs,rfl,hrt,k3⟩
  refine ⟨_,rfl,?_⟩
  have hk3:Same0 W w3:=kd.trans' k3
  have cc3:=SX.out w3 hk3
  obtain ⟨-,q1,q2,q3⟩:=SS.out w3 hk3
  have e0:w3.cell? ⟨w.heap.size+1,0,none⟩=some (.slice none 0 0):=cellAt q1 0
  have e1:w3.cell? ⟨w.heap.size+1,1,none⟩=some (.slice none 0 0):=cellAt q1 1
  have e2:w3.cell? ⟨w.heap.size+1,2,none⟩=some (.slice none 0 0):=cellAt q1 2
  have e3:w3.cell? ⟨w.heap.size+1,3,none⟩=some (.slice none 0 0):=cellAt q1 3
  have f0:=frozenAt q1 0
  have f1:=frozenAt q1 1
  have f2:=frozenAt q1 2
  have f3:=frozenAt q1 3
  obtain ⟨p1,p2⟩:=put4_raw q1 (.slice io I1 ic) (.slice po P1 pc) (.slice eo E1 ec) (.slice ro R.length rc)
  have n1:=p2.at q2 (fun e=>(by have e' : w.heap.size+1+1=w.heap.size+1:=e;omega))
  have n0:=cellAt n1 0
  have nf:=frozenAt n1 0
  simp only [List.getElem?_toArray,List.getElem?_cons_zero] at n0
  have cc4:=SK.out w3 _ hk3 (p2.mono (fun _ _ e=>.inl e))
  have k5:=kept_at ((((w3.setCell ⟨w.heap.size+1,0,none⟩ (.slice io I1 ic)).setCell ⟨w.heap.size+1,1,none⟩ (.slice po P1 pc)).setCell ⟨w.heap.size+1,2,none⟩ (.slice eo E1 ec)).setCell ⟨w.heap.size+1,3,none⟩ (.slice ro R.length rc)) (w.heap.size+1+1) 0 .nilIface
  have k35:=Kept.trans (p2.mono (S' := fun q=>q=w.heap.size+1∨q=w.heap.size+1+1) (fun _ _ e=>.inl e)) k5 (fun _ _ e=>.inr e)
  have cc5:=SK.out w3 _ hk3 k35
  refine hK.out _ _ cc3 (fun hHeld=>?_)
  clear hK K
  refine wpAnyH_take (i:=8) (v:=.agg #[.slice io I1 ic,.slice po P1 pc,.slice eo E1 ec,.slice ro R.length rc]) rfl (by kernel_rfl) (by kernel_rfl) (by kernel_rfl) (fun _ _ _ h=>h) (.inl ⟨rfl,fun w' hS=>by simp [go_sem]⟩) hHeld ?_
  refine wpAnyH_ready (rs:=[9]) (by kernel_rfl) (by simp) ?_
  refine AllReadyH.cons rfl (fun K hK=>?_) AllReadyH.nil
  go_simp
  refine hK.out _ _ cc4 (fun hHeld=>?_)
  clear hK K
  refine wpAnyH_ready (rs:=[10]) (by kernel_rfl) (by simp) ?_
  refine AllReadyH.cons rfl (fun K hK=>?_) AllReadyH.nil
  go_simp
  refine hK.out _ _ cc5 (fun hHeld=>?_)
  clear hK K
  refine wpAnyH_done (by kernel_rfl) ?_ _
  gi_wp2_with fail
  obtain ⟨Y4,hY4⟩:∃ Y4,Y4=(((w3.setCell ⟨w.heap.size+1,0,none⟩ (.slice io I1 ic)).setCell ⟨w.heap.size+1,1,none⟩ (.slice po P1 pc)).setCell ⟨w.heap.size+1,2,none⟩ (.slice eo E1 ec)).setCell ⟨w.heap.size+1,3,none⟩ (.slice ro R.length rc):=⟨_,rfl⟩
  rw [← hY4] at p1 n1 k5 k35 ⊢
  have hzW3:=hk3.size
  have g5:=k5.at p1 (fun e=>(by have e' : w.heap.size+1=w.heap.size+1+1:=e;omega))
  have n5:=setAt n1 0 (.nilIface)
  have d5:=k35.at q3 (fun e=>by omega)
  have ks:Kept (fun q=>q=D) (Y4.setCell ⟨w.heap.size+1+1,0,none⟩ .nilIface) ((Y4.setCell ⟨w.heap.size+1+1,0,none⟩ .nilIface).putObj D (.deferred none)):=kept_put
  have noD:∀ q,(fun q=>q=D) q→∀ cur t,(Y4.setCell ⟨w.heap.size+1+1,0,none⟩ .nilIface).heap[q]? ≠ some (.cells cur t (0,0)):=fun q e cur t hc=>by
   have e' : q=D:=e
   rw [e', d5] at hc;cases hc
  have zz:=z0
  have gZ:=(World.putObj_heap_other (w:=Y4.setCell ⟨w.heap.size+1+1,0,none⟩ .nilIface) (r:=D) (o:=.deferred none) (k:=w.heap.size+1) (by omega)).trans g5
  have nZ:=(World.putObj_heap_other (w:=Y4.setCell ⟨w.heap.size+1+1,0,none⟩ .nilIface) (r:=D) (o:=.deferred none) (k:=w.heap.size+1+1) (by omega)).trans n5
  have v0:=cellAt gZ 0
  have v1:=cellAt gZ 1
  have v2:=cellAt gZ 2
  have v3:=cellAt gZ 3
  have v4:=cellAt nZ 0
  simp only [List.getElem?_toArray,List.getElem?_cons_zero,List.getElem?_cons_succ] at v0 v1 v2 v3
  have v5:((Y4.setCell ⟨w.heap.size+1+1,0,none⟩ .nilIface).putObj D (.deferred none)).cell? ⟨w.heap.size+1+1,0,none⟩=some .nilIface:=by rw [v4];rfl
  refine ⟨by simp,.inl ⟨_,_,rfl,run_takeDeferred d5,?_⟩⟩
  refine ⟨.tuple #[.agg #[.slice io I1 ic,.slice po P1 pc,.slice eo E1 ec,.slice ro R.length rc],.nilIface],by simp [results,Tryz.results50,go_sem,v0,v1,v2,v3,v5],?_⟩
  obtain ⟨l1,l2⟩:=LAYW.out
  obtain ⟨t1,t2⟩:=hrt.out
  obtain ⟨a1,a2,a3⟩:=HIP.out
  have hdz:W.drew.heap.size=W.heap.size:=rfl
  have own1:∀ q,(Value.slice eo E1 ec).ownBlock=some q→¬ (q=w.heap.size+1∨q=w.heap.size+1+1):=fun q e e2=>by have:=own_low l2 e;omega
  have own2:∀ q,(Value.slice ro R.length rc).ownBlock=some q→¬ (q=w.heap.size+1∨q=w.heap.size+1+1):=fun q e e2=>by have:=own_low t1 e;omega
  have r1:=k35.row (hk3.row l2 (fun _ _ f=>f)) own1
  have r2:=k35.row t1 own2
  refine ⟨io,ic,po,pc,eo,ec,ro,rc,cs,by rw [a1,a2,a3],?_,?_,?_,?_,?_⟩
  ·rw [← a1,← a2]
   exact (((l1.same hk3).keptB k35 (fun q e=>by show q<w1.heap.size;omega)).kept ks (fun q e=>⟨fun cur=>noD q e cur _,fun cur=>noD q e cur _,fun cur=>noD q e cur _⟩)).mono (fun q _ e=>by show q<w1.heap.size;have e' : q<w.heap.size:=e;omega)
  ·rw [← a3]
   exact row_mono (ks.row r1 (fun q e e2=>by obtain ⟨cur,hc⟩:=own_typed r1 e;exact noD q e2 cur _ hc)) (by omega)
  ·exact row_mono (ks.row r2 (fun q e e2=>by obtain ⟨cur,hc⟩:=own_typed r2 e;exact noD q e2 cur _ hc)) (by omega)
  ·refine RtC.low ((t2.kept k35 (fun q e=>?_)).kept ks (fun q e=>⟨fun cur=>noD q e cur _,fun cur=>noD q e cur _⟩)) (by omega)
   rcases e with e | e
   ·rw [e]
    exact ⟨fun cur h=>(by rw [q1] at h;cases h),fun cur h=>(by rw [q1] at h;cases h)⟩
   ·rw [e]
    exact ⟨fun cur h=>(by rw [q2] at h;cases h),fun cur h=>(by rw [q2] at h;cases h)⟩
  ·exact Kept.trans (Kept.trans (HJ1.out.trans' hk3) k35 (fun i hi e=>by omega)) ks (fun i hi e=>by have e' : i=D:=e;omega)
 case round=>
  rintro l k vs W hk hl hlW hj ⟨hk', rfl⟩
  obtain ⟨Wa,hWa⟩:∃ Wa,Wa=W.alloc (.cells #[.string L[k].name,.int .i64 L[k].ar,.bool L[k].df] 60):=⟨_,rfl⟩
  have ka:Same0 W Wa:=by rw [hWa];exact (Kept.refl _ _).alloc _
  have bx:Wa.heap[W.heap.size]? = some (.cells #[.string L[k].name,.int .i64 L[k].ar,.bool L[k].df] 60 (0,0)):=by rw [hWa];exact heap_alloc_new _ _
  gi_wp2_with fail
  rw [← hWa]
  clear hWa
  refine ⟨Rnd.same ka (by omega),fun o o' ho hoc hoc' => ?_⟩
  have hjb:=(hj.up ka).put (o' := o') ho hoc (by omega)
  have bxb:=putObj_at (o' := o') ho hoc bx rfl
  have lob:(Wa.putObj l o').heap[l]? = some o' := World.putObj_heap_same (lt_of_at ho)
  obtain ⟨Wb,hWb⟩:∃ Wb,Wb=Wa.putObj l o' := ⟨_,rfl⟩
  rw [← hWb] at hjb bxb lob ⊢
  have hzb:W0.heap.size≤Wb.heap.size:=by have:=lt_of_at lob;omega
  clear hWb ho bx hj ka
  have y2:Wb.cell? ⟨W.heap.size,2,none⟩=some (.bool L[k].df):=cellAt bxb 2
  obtain ⟨j1,ev,j2,j3,j4⟩:=hjb
  obtain ⟨sm1,sm2⟩:=cmpS_small hArs hL64 hle hok k (by omega)
  have c2:=cellAt j2 0
  simp only [List.getElem?_toArray,List.getElem?_cons_zero] at c2
  obtain ⟨eo,ec,rfl⟩:=row_shape j3
  obtain ⟨i0,hi0,hz0,hz1,hz2⟩:=info_parts info_intT
  have bb1:(cmpS L R k).2.length+1≤maxLen:=by unfold maxLen;omega
  have bb2:((cmpS L R k).2.length+1) * 8≤140737488355328:=by omega
  have hdf:=defB_at hk'
  have hj1:=j1.size
  cases hd:L[k].df with
  | false=>
   rw [hd] at hdf y2
   have MORE:Hid (∀ w2 ev', w2.ownsRow w1.heap.size 3 1 ev' ((cmpS L R k).2.length+1) (iv (cmpS L R k).2 ++ [.int .i64 (-1)])→Kept (fun q=>(Value.slice eo (cmpS L R k).2.length ec).ownBlock=some q) Wb w2→(∀ q,ev'.ownBlock=some q→(Value.slice eo (cmpS L R k).2.length ec).ownBlock=some q∨Wb.heap.size≤q)→(w2.cell? ⟨w1.heap.size+1,0,none⟩=some (.slice eo (cmpS L R k).2.length ec)∧w2.frozen? ⟨w1.heap.size+1,0,none⟩=false)∧CpJ L R w1 (k+1) (w2.setCell ⟨w1.heap.size+1,0,none⟩ ev')∧Rnd (w1.heap.size+3) w1.heap.size Wb (w2.setCell ⟨w1.heap.size+1,0,none⟩ ev')):=fun w2 ev' hr hkp hat=>by
    obtain ⟨q1,q2,q3⟩:=CpJ.pass (D:=w1.heap.size+3) hdf j1 j2 j3 j4 hr hkp hat
    exact ⟨⟨cellAt q1 0,frozenAt q1 0⟩,q2,q3⟩
   have hj3:Hid (Wb.ownsRow w1.heap.size 3 1 (.slice eo (cmpS L R k).2.length ec) (cmpS L R k).2.length (iv (cmpS L R k).2)):=j3
   have bb3:w1.heap.size≤(Wb.alloc (.cells #[.int .i64 (-1)] 3)).heap.size:=by simp;omega
   clear j1 j2 j3 j4 bxb lob sm1 sm2 hd ST
   generalize (cmpS L R k).2=EE at *
   gi_wp2_with (gi_at_builtin;refine wpListIn_append_own_at _ rfl _ _ 51 rfl w1.heap.size 3 i0 (.int .i64 0) 1 8 Tryz.underlying51 hi0 hz0 hz1 hz2 rfl (by decide) (.slice eo EE.length ec) EE.length (iv EE) rfl (World.ownsRow.alloc hj3.out _) ⟨Wb.heap.size,0,none⟩ 1 1 [.int .i64 (-1)] rfl rfl (cell_one_new _ _ _) (by simp [Value.oneCell']) bb1 bb2 bb3 ?_;intro v' w2 hown' hgrow _ hat;obtain ⟨g9,cap9,rfl⟩:=ownsRow_succ hown'; obtain ⟨⟨m1', m2'⟩,m3,m4⟩:=MORE.out w2 _ hown' (Kept.grown (Kept.alloc (Kept.refl _ Wb) _) hgrow (fun _ e _=>e)) (hat_of hat (by simp)))
  | true=>
   rw [hd] at hdf y2
   obtain ⟨t,ht⟩:=hall k hk' hdf
   obtain ⟨hstb,rb⟩:=ST.out Wb j1
   have hts:=tree_small hArs hL64 hle hok hk' ht
   have CB:Calls Tryz.prog 52 #[.pointer (some ⟨b,0,none⟩),.int .i64 (k:Int)] Wb fun e w' => ∃ tk tr tpo tpl tpc tko tkl tkc,e=.returned (.tuple #[.agg #[.int .i64 tk,.int .i64 tr,.slice tpo tpl tpc,.slice tko tkl tkc],.nilIface])∧Hid (CsB (fun b=>Wb.heap.size≤b) w' 2001 (.agg #[.int .i64 tk,.int .i64 tr,.slice tpo tpl tpc,.slice tko tkl tkc]) t)∧Same0 Wb w' := by
    refine (build_any hstb (k:Int)).mono ?_
    rintro e w' ⟨hk9,h9⟩
    rw [if_pos hdf,Int.toNat_natCast,ht] at h9
    obtain ⟨v,rfl,hc⟩:=h9
    obtain ⟨tk,tr,tpo,tpl,tpc,tko,tkl,tkc,rfl⟩:=hc.shape
    exact ⟨tk,tr,tpo,tpl,tpc,tko,tkl,tkc,rfl,hc,hk9⟩
   obtain ⟨vi,vp,tt1,tt2,tt3⟩:=id j4
   obtain ⟨io,ic,rfl⟩:=row_shape tt3.ri
   have XC:Hid (∀ w3 o,Same0 Wb w3→(w3.alloc o).cell? ⟨w1.heap.size+1,0,none⟩=some (.slice eo (cmpS L R k).2.length ec)∧(w3.alloc o).cell? ⟨w1.heap.size,0,none⟩=some (.slice io (cmpS L R k).1.1.length ic)∧(w3.alloc o).ownsRow w1.heap.size 3 1 (.slice eo (cmpS L R k).2.length ec) (cmpS L R k).2.length (iv (cmpS L R k).2)∧w1.heap.size≤((w3.alloc o).alloc (.cells #[.int .i64 ((cmpS L R k).1.1.length:Int)] 3)).heap.size):=fun w3 o hk3=>by
    have kx:Same0 Wb (w3.alloc o):=Kept.alloc hk3 _
    exact ⟨cellAt (kx.at0 j2) 0,cellAt (kx.at0 tt1) 0,kx.row j3 (fun _ _ f=>f),by have:=kx.size;simp at this ⊢;omega⟩
   have LAID:Hid (∀ w3 tk tr tpo tpl tpc tko tkl tkc w4 ev', Same0 Wb w3→CsB (fun b=>Wb.heap.size≤b) w3 2001 (.agg #[.int .i64 tk,.int .i64 tr,.slice tpo tpl tpc,.slice tko tkl tkc]) t→w4.ownsRow w1.heap.size 3 1 ev' ((cmpS L R k).2.length+1) (iv (cmpS L R k).2 ++ [.int .i64 ((cmpS L R k).1.1.length:Int)])→Kept (fun q=>(Value.slice eo (cmpS L R k).2.length ec).ownBlock=some q) (w3.alloc (.cells #[.int .i64 tk,.int .i64 tr,.slice tpo tpl tpc,.slice tko tkl tkc] 63)) w4→(∀ q,ev'.ownBlock=some q→(Value.slice eo (cmpS L R k).2.length ec).ownBlock=some q∨(w3.alloc (.cells #[.int .i64 tk,.int .i64 tr,.slice tpo tpl tpc,.slice tko tkl tkc] 63)).heap.size≤q) →
     (w4.cell? ⟨w1.heap.size+1,0,none⟩=some (.slice eo (cmpS L R k).2.length ec)∧w4.frozen? ⟨w1.heap.size+1,0,none⟩=false)∧((w4.setCell ⟨w1.heap.size+1,0,none⟩ ev').cell? ⟨w3.heap.size,0,none⟩=some (.int .i64 tk)∧(w4.setCell ⟨w1.heap.size+1,0,none⟩ ev').cell? ⟨w3.heap.size,1,none⟩=some (.int .i64 tr)∧(w4.setCell ⟨w1.heap.size+1,0,none⟩ ev').cell? ⟨w3.heap.size,2,none⟩=some (.slice tpo tpl tpc)∧(w4.setCell ⟨w1.heap.size+1,0,none⟩ ev').cell? ⟨w3.heap.size,3,none⟩=some (.slice tko tkl tkc))∧Calls Tryz.prog 86 #[.pointer (some ⟨w1.heap.size,0,none⟩),.agg #[.int .i64 tk,.int .i64 tr,.slice tpo tpl tpc,.slice tko tkl tkc]] (w4.setCell ⟨w1.heap.size+1,0,none⟩ ev') fun e Z=>(∃ u,e=.returned u)∧CpJ L R w1 (k+1) Z∧Rnd (w1.heap.size+3) w1.heap.size Wb Z):=by
    intro w3 tk tr tpo tpl tpc tko tkl tkc w4 ev' hk3 hc3 hr hkp hat
    have ka:Same0 w3 (w3.alloc (.cells #[.int .i64 tk,.int .i64 tr,.slice tpo tpl tpc,.slice tko tkl tkc] 63)):=(Kept.refl _ _).alloc _
    obtain ⟨q1,q2,q3⟩:=CpJ.laid (D:=w1.heap.size+3) hdf ht (by omega) (hk3.trans' ka) j1 j2 j3 j4 (hc3.same ka) hr hkp hat
    have hz3:=hk3.size
    have lE:=lt_of_at j2
    have hb:=q2.at (heap_alloc_new w3 (.cells #[.int .i64 tk,.int .i64 tr,.slice tpo tpl tpc,.slice tko tkl tkc] 63)) (fun e=>by
     rcases e with e | e
     ·have:=typed_lt j3 e;omega
     ·omega)
    exact ⟨⟨cellAt q1 0,frozenAt q1 0⟩,⟨cellAt hb 0,cellAt hb 1,cellAt hb 2,cellAt hb 3⟩,q3⟩
   clear j1 j2 j3 j4 tt1 tt2 tt3 bxb lob sm1 sm2 hd ST hstb hts ht
   generalize (cmpS L R k).2=EE at *
   generalize (cmpS L R k).1.1.length=NN at *
   gi_wp2_with (first
    | (gi_at_call 52;refine (CallsIn.inRound l (callsIn_wide.2 CB)).mono ?_;rintro e w3 ⟨tk,tr,tpo,tpl,tpc,tko,tkl,tkc,rfl,hcs,k3⟩;obtain ⟨xc1,xc2,xc3,bb3⟩:=XC.out w3 (.cells #[.int .i64 tk,.int .i64 tr,.slice tpo tpl tpc,.slice tko tkl tkc] 63) k3)
    | (gi_at_builtin;refine wpListIn_append_own_at _ rfl _ _ 51 rfl w1.heap.size 3 i0 (.int .i64 0) 1 8 Tryz.underlying51 hi0 hz0 hz1 hz2 rfl (by decide) (.slice eo EE.length ec) EE.length (iv EE) rfl (World.ownsRow.alloc xc3 _) ⟨w3.heap.size+1,0,none⟩ 1 1 [.int .i64 (NN:Int)] rfl rfl (by have:=cell_one_new (w3.alloc (.cells #[.int .i64 tk,.int .i64 tr,.slice tpo tpl tpc,.slice tko tkl tkc] 63)) (.int .i64 (NN:Int)) 3;simp only [World.size_alloc] at this;exact this) (by simp [Value.oneCell']) bb1 bb2 bb3 ?_;intro v' w4 hown' hgrow _ hat;obtain ⟨g9,cap9,rfl⟩:=ownsRow_succ hown'; obtain ⟨⟨m1', m2'⟩,⟨d0,d1,d2,d3⟩,CL⟩:=LAID.out w3 tk tr tpo tpl tpc tko tkl tkc w4 _ k3 hcs.out hown' (Kept.grown (Kept.alloc (Kept.refl _ _) _) hgrow (fun _ e _=>e)) (hat_of hat (by simp)))
    | (gi_at_call 86;refine (CallsIn.inRound l (callsIn_wide.2 CL)).mono ?_;rintro e w5 ⟨⟨u,rfl⟩,m3,m4⟩))
end Go.Proofs.YtmjgnfkbnofjoaaGreatDoor
namespace Go.Proofs.YtmjgnfkbnofjoaaGreatDoor
set_option linter.unusedVariables false
open Go.RowKit
section
variable {F : Fence} {n : Nat} {P : Program}
def HandsX (F:Fence) (n:Nat) (P:Program) (gf:Nat) (lb:Array Value) (B N:Nat) (Lk:Nat→Array Value→World→Prop) (w:World):Prop:=
 ∀ (l:Nat) (J:Nat→World→Prop) (Z:World→Prop) (W:World),Same0 w W→(∀ k X Y,J k X→Same0 X Y→J k Y)→(∀ X Y,Z X→Same0 X Y→Z Y) →
  (∀ k vs X,k<N→J k X→Lk k vs X→YieldAt F (n-1) P l vs X fun e Y=>(e=.returned (.bool true)∧J (k+1) Y∧Below B X Y)∨(e=.returned (.bool false)∧Z Y))→J 0 W →
  CallsIn F n P gf (#[.func (.yield l) #[] #[]]++lb) W fun e Y=>(∃ v,e=.returned v)∧(J N Y∨Z Y)
theorem wp_handsX {g:Operand} {ps:Array Tmp} {assign body:Code} {Q:Exit→Act→World→Prop} {a:Act} {w:World}
  (hro:F.round=none) (h1:1≤n) {gf:Nat} {lb:Array Value} (hg:a.eval g=.func (.func gf) #[] lb) (hFg:F.fn gf) (eg:∀ args w,(callFunc gf args).run P w=.ok (.enter gf args) w)
  {N:Nat} {Lk:Nat→Array Value→World→Prop} {B:Nat} (hB:B≤w.heap.size) (hh:HandsX F (n-1) P gf lb B N Lk w) (hsz:∀ k vs W,Lk k vs W→vs.size=ps.size)
  (J:Nat→World→Prop) (hJ:∀ k X Y,J k X→Same0 X Y→J k Y) (hJp:∀ k X l o o', J k X→X.heap[l]? = some o→o.isCells=false→w.heap.size≤l→J k (X.putObj l o')) (h0:J 0 w) (Z:World→Prop) (hZ:∀ X Y,Z X→Same0 X Y→Z Y) (hZp:∀ X l o o', Z X→X.heap[l]? = some o→o.isCells=false→w.heap.size≤l→Z (X.putObj l o'))
  (hround:∀ (l k:Nat) (vs:Array Value) (W:World),k<N→w.heap.size≤l→l<W.heap.size→J k W→Lk k vs W →
   assign.wpIn (F.inRound l) (n-1-1) P (Exit.then (fun a' Wa=>Rnd w.heap.size B W Wa∧∀ o o', Wa.heap[l]? = some o→o.isCells=false→o'.isCells=false →
    body.wpIn (F.inRound l) (n-1-1) P (fun e _ Y=>(e=.normal∧Rnd w.heap.size B (Wa.putObj l o') Y∧J (k+1) Y)∨(e=.ret∧KeepsFrom w.heap.size (Wa.putObj l o') Y∧Z Y)) a' (Wa.putObj l o')) (fun _ _ _=>False))
    { tmps:=(ps.zip vs).foldl (fun t (p,v)=>t.setIfInBounds p v) a.tmps,defers:=[] } W)
  (hdone:∀ (D:Nat) (W:World),w.heap.size≤D→J N W→W.heap[D]? = some (.deferred (some []))→Q .normal { a with defers:={ target:=.collected D,args:=#[] } :: a.defers } W)
  (hstop:∀ (D:Nat) (W:World),w.heap.size≤D→Z W→W.heap[D]? = some (.deferred (some []))→Code.wpIn F n P .ret Q { a with defers:={ target:=.collected D,args:=#[] } :: a.defers } W) :
  (Code.rangeFunc g ps assign body).wpIn F n P Q a w:=by
 refine wpIn_rangeFunc fun fn hfn=>?_
 rw [hro]
 have hen:=run_enterLoop_outer (P:=P) (w:=w) fn a.tmps ps assign body
 obtain ⟨st,hst⟩:∃ st:LoopState→Option Code→Loop,st=fun s p=>{ state:=s,pending:=p,fn:=fn,tmps:=a.tmps,params:=ps,assign:=assign,body:=body,defers:=w.heap.size }:=⟨_,rfl⟩
 obtain ⟨W1,hW1⟩:∃ W1,W1=(w.alloc (.deferred (some []))).alloc (.loop (st .ready none)):=⟨_,rfl⟩
 have hs1:Same0 w W1:=by rw [hW1];exact ((Kept.refl _ w).alloc _).alloc _
 have hd1:W1.heap[w.heap.size]? = some (.deferred (some [])):=by
  rw [hW1];exact (Below.heap_alloc _ _ _ (by simp)).trans (World.alloc_heap_new w _)
 have hl1:W1.heap[w.heap.size+1]? = some (.loop (st .ready none)):=by
  have:=World.alloc_heap_new (w.alloc (.deferred (some []))) (.loop (st .ready none))
  rw [hW1];simpa using this
 refine ⟨w.heap.size+1,[{ target:=.collected w.heap.size,args:=#[] }],W1, { target:=.fn (.func gf) lb,args:=#[.func (.yield (w.heap.size+1)) #[] #[]] },W1,gf, #[.func (.yield (w.heap.size+1)) #[] #[]]++lb,W1,?_,?_,?_,?_,fun _=>h1,?_⟩
 ·rw [hen,hW1,hst]
 ·simp only [resolve,hg];simp [go_sem]
 ·intro f' hf'; simp [Target.leads] at hf'; subst hf'; exact hFg
 ·simp [invoke,go_sem,eg]
 ·have hcall:=hh (w.heap.size+1) (fun k X=>J k X∧X.heap[w.heap.size+1]? = some (.loop (st .ready none))∧X.heap[w.heap.size]? = some (.deferred (some []))) (fun X=>Z X∧X.heap[w.heap.size+1]? = some (.loop (st .done (some .ret)))∧X.heap[w.heap.size]? = some (.deferred (some []))) W1 hs1
   (fun k X Y h hk=>⟨hJ k X Y h.1 hk,hk.at0 h.2.1,hk.at0 h.2.2⟩) (fun X Y h hk=>⟨hZ X Y h.1 hk,hk.at0 h.2.1,hk.at0 h.2.2⟩) ?_ ⟨hJ 0 _ _ h0 hs1,hl1,hd1⟩
  ·refine hcall.mono ?_
   rintro e Y ⟨⟨v,rfl⟩,⟨hj,hl,hd⟩ | ⟨hz,hl,hd⟩⟩
   rotate_left
   ·have hend:=run_endLoop (P:=P) hl (by rw [hst];simp)
    rw [hst] at hend
    exact ⟨some .ret,_,hend,hstop w.heap.size _ (Nat.le_refl _) (hZp _ _ _ _ hz hl rfl (by omega)) ((World.putObj_heap_other (by omega)).trans hd)⟩
   have hend:=run_endLoop (P:=P) hl (by rw [hst];simp)
   rw [hst] at hend
   exact ⟨none,_,hend,hdone w.heap.size _ (Nat.le_refl _) (hJp _ _ _ _ _ hj hl rfl (by omega)) ((World.putObj_heap_other (by omega)).trans hd)⟩
  ·rintro k vs X hk ⟨hj,hl,hd⟩ hlk
   have hy:=run_yield (P:=P) (args:=vs) hl (by rw [hst];exact hsz k vs X hlk)
   rw [hst] at hy
   have hlX:w.heap.size+1<X.heap.size:=(Array.getElem?_eq_some_iff.1 hl).1
   refine ⟨fn,_,assign,body,hy,roundIn_of_wpIn hfn (wpIn_mono (hround (w.heap.size+1) k vs X hk (by omega) hlX hj hlk) ?_)⟩
   rintro e a' Wa hp
   cases e with
   | normal=>
    obtain ⟨hr,hb⟩:=hp
    have hla:=hr.recs.same _ _ (by omega) hl rfl
    have hda:=hr.recs.same _ _ (Nat.le_refl _) hd rfl
    have hlt:w.heap.size+1<Wa.heap.size:=(Array.getElem?_eq_some_iff.1 hla).1
    refine ⟨_,run_beginRound hla (by rw [hst]),wpIn_mono (hb _ (.loop { st .ready none with state:=.busy }) hla rfl rfl) ?_⟩
    rintro e2 a2 Y (⟨rfl,hr2,hj2⟩ | ⟨rfl,hr2,hz2⟩)
    rotate_left
    ·have hl2:=hr2.same _ _ (by omega) (World.putObj_heap_same (o:=.loop { st .ready none with state:=.busy }) hlt) rfl
     have hd2:=hr2.same _ _ (Nat.le_refl _) ((World.putObj_heap_other (o:=.loop { st .ready none with state:=.busy }) (by omega)).trans hda) rfl
     have hend:=run_endRound (P:=P) (some .ret) hl2
     rw [hst] at hend
     refine ⟨_,_,hend,.inr ⟨rfl,hZp _ _ _ _ hz2 hl2 rfl (by omega),?_,(World.putObj_heap_other (by omega)).trans hd2⟩⟩
     rw [hst];exact World.putObj_heap_same (Array.getElem?_eq_some_iff.1 hl2).1
    have hl2:=hr2.recs.same _ _ (by omega) (World.putObj_heap_same (o:=.loop { st .ready none with state:=.busy }) hlt) rfl
    have hd2:=hr2.recs.same _ _ (Nat.le_refl _) ((World.putObj_heap_other (o:=.loop { st .ready none with state:=.busy }) (by omega)).trans hda) rfl
    have hend:=run_endRound (P:=P) none hl2
    rw [hst] at hend
    refine ⟨_,_,hend,.inl ⟨rfl,⟨hJp _ _ _ _ _ hj2 hl2 rfl (by omega),?_,(World.putObj_heap_other (by omega)).trans hd2⟩,?_⟩⟩
    ·rw [hst];exact World.putObj_heap_same (Array.getElem?_eq_some_iff.1 hl2).1
    ·exact (hr.below.trans (below_put hla (by omega))).trans (hr2.below.trans (below_put hl2 (by omega)))
   | _=>exact hp.elim
end
end Go.Proofs.YtmjgnfkbnofjoaaGreatDoor
namespace Go.Proofs.YtmjgnfkbnofjoaaGreatDoor
set_option maxRecDepth 100000
set_option linter.unusedVariables false
open Go.RowKit Go.Shelf
attribute [local go_sem] Oper.semAt_some
set_option maxHeartbeats 8000000 in
theorem hands_symsX {n:Nat} {w wx:World} {b:Nat} {L:List Sym} {sv:Value} {mr:Option Nat} (hs:SigAt w b L sv mr) (hwx:Same0 w wx) {Bn:Nat} (hbx:wx.cell? ⟨Bn,0,none⟩=some (.pointer (some ⟨b,0,none⟩))) (hn:1≤n) :
  HandsX Fence.wide n Tryz.prog 51 #[.pointer (some ⟨Bn,0,none⟩)] w.heap.size L.length (SyLk L) wx:=by
 intro l J Z W hW hJ hZ hY h0
 have hFn:∀ k,Fence.wide.fn k:=fun _=>trivial
 have KW:Same0 w W:=hwx.trans' hW
 have s1:W.cell? ⟨Bn,0,none⟩=some (.pointer (some ⟨b,0,none⟩)):=(hW.cell (p:=⟨Bn,0,none⟩) (World.block_lt_of_cell? _ _ hbx) (fun f=>f)).trans hbx
 obtain ⟨ao,cap,rfl⟩:=hs.sv
 have hlen:=hs.len
 have HS:Hid (∀ X,Same0 w X→SigAt X b L (.slice ao L.length cap) mr):=fun X hk=>hs.kept hk (fun _ _ f=>f)
 have c0:W.cell? ⟨b,0,none⟩=some (.slice ao L.length cap):=cellAt (HS.out W KW).blk 0
 have hpn:∀ ww:World,(binOp .eql 41 (.pointer (some ⟨b,0,none⟩)) (.pointer none)).run Tryz.prog ww=.ok (.bool false) ww:=fun ww=>by kernel_rfl
 clear hs
 refine callsIn_of_wp Tryz.func51 rfl trivial ?_ rfl
 simp only [Tryz.ntmps51,List.size_toArray,List.length_cons,List.length_nil,Nat.reduceAdd,Nat.reduceSub,Array.replicate_succ,Array.replicate_zero,List.push_toArray,List.append_toArray,List.nil_append,List.cons_append]
 gi_wp2_with fail
 gi_loopw [12] (fun i wr=>∃ k:Nat,k≤L.length∧i=.int .i64 k∧Same0 w wr∧J k wr) (fun i _=>L.length-(intOf i).toNat)
 case atStart=>exact ⟨0,Nat.zero_le _,rfl,KW,h0⟩
 case round=>
  clear s1 c0
  obtain ⟨k,hk,rfl,hs,hj⟩:=hrel
  by_cases hlt:k<L.length
  ·have hsr:=HS.out wr hs
   obtain ⟨g,rfl,hg,x0,x1,x2⟩:=hsr.sym hlt
   have i1:(0:Int)≤(k:Int):=by omega
   have i2:(k:Int)<(L.length:Int):=by omega
   have ka:Same0 wr (wr.alloc (.cells #[.string L[k].name,.int .i64 L[k].ar,.bool L[k].df] 60)):=(Kept.refl _ _).alloc _
   obtain ⟨fn,tmps,asg,bdy,hy,hR⟩:=hY k _ _ hlt (hJ k _ _ hj ka) ⟨hlt,rfl⟩
   have hs3:=hs.trans' ka
   gi_wp2_with fail
   refine hR.mono ?_
   rintro e w4 (⟨rfl,hj4,hb4⟩ | ⟨rfl,hz4⟩)
   rotate_left
   ·clear hR hy hsr
    gi_wp2_with fail
    go_returns
    exact ⟨⟨_,rfl⟩,.inr hz4⟩
   have hs4:Same0 w w4:=Same0.of_below (hs3.below.trans hb4)
   clear hR hy hsr
   gi_wp2_with fail
   go_roundw
   case rel=>exact ⟨k+1,by omega,by go_num,hs4,hj4⟩
   case measure=>simp [intOf];omega
  ·obtain rfl:k=L.length:=by omega
   gi_wp2_with fail
   go_end0
   exact ⟨⟨_,rfl⟩,.inl hj⟩
end Go.Proofs.YtmjgnfkbnofjoaaGreatDoor
