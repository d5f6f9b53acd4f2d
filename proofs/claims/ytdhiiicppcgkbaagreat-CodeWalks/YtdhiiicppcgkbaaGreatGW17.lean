import Derived.Test.YtdhiiicppcgkbaaGreatGW15
import Derived.Test.YtdhiiicppcgkbaaGreatGW16
import Derived.Test.YtdhiiicppcgkbaaGreatGW10
import Derived.Test.YtdhiiicppcgkbaaGreatGW09
namespace Go.Proofs.YtdhiiicppcgkbaaGreat
set_option maxRecDepth 100000
set_option linter.unusedVariables false
open Go.RowKit
attribute [local go_sem ↓] Go.wp_at_zero Go.wp_at_succ
def rowsOf (R:List Ru) (l:List Int):List Rw:=l.map (fun i=>(i,(R.getD i.toNat ([],[])).1,[0]))
theorem ofF_mem {s:Int} {i:Int}:∀ {R:List Ru} {k:Nat},i∈ofF s k R→∃ j,∃ h:j<R.length,i=((k+j:Nat):Int)∧R[j].1.head? = some s
 | [],k,h=>by simp [ofF] at h
 | x :: r,k,h=>by
  rw [ofF] at h
  rcases List.mem_append.1 h with q | q
  ·split at q
   ·simp at q
    exact ⟨0,by simp,by simpa using q,by assumption⟩
   ·simp at q
  ·obtain ⟨j,hj,e1,e2⟩:=ofF_mem q
   exact ⟨j+1,by simp;omega,by rw [e1];congr 1;omega,by simpa using e2⟩
def rootP (L:List Sym) (s:Nat):List (List Int):=kidP L [[]] 0 s
def rootR (L:List Sym) (R:List Ru) (s:Nat):List Rw:=(rowsOf R (ofF (s:Int) 0 R)).map (kidX L 0)
theorem rows_fact {L:List Sym} {R:List Ru} (hok:∀ x∈R,checkE L x.1=0∧checkE L x.2=0) {s:Nat} {x:Rw} (hx:x∈rowsOf R (ofF (s:Int) 0 R)):∃ j,∃ h:j<R.length,x=((j:Int),R[j].1,[0])∧checkE L R[j].1=0∧0<R[j].1.length∧numR x 0=(s:Int):=by
 obtain ⟨i,hi,rfl⟩:=List.mem_map.1 hx
 obtain ⟨j,hj,e1,e2⟩:=ofF_mem hi
 have hz:=hok _ (List.getElem_mem hj)
 have hp:=(ok_len hz).1.1
 have e3:R.getD i.toNat ([],[])=R[j]:=by rw [e1];simp [List.getD,hj]
 refine ⟨j,hj,by rw [e3,e1];simp,hz.1,hp,?_⟩
 rw [e3]
 unfold numR
 show R[j].1.getD 0 (-1)=_
 rw [getD_lt hp]
 exact (head_at hp _).1 e2
theorem root_ok {L:List Sym} (ha:Ars L) {R:List Ru} (hle:R.length≤100) (hok:∀ x∈R,checkE L x.1=0∧checkE L x.2=0) {s:Nat} (hs:s<L.length):NdOk L 2001 (rootP L s) (rootR L R s):=by
 have hP:(rootP L s).length=arN L (s:Int):=by simp [rootP,kidP,repl]
 have h6:=arN_le ha (s:Int)
 refine ⟨by omega,?_,by omega,?_,?_⟩
 ·simp only [rootR,rowsOf,List.length_map]
  exact Nat.le_trans (ofF_len _ _ _) hle
 ·intro p hp
  simp only [rootP,kidP,repl,List.take_zero,List.nil_append,List.drop_succ_cons,List.drop_nil,List.append_nil] at hp
  obtain ⟨i,_,rfl⟩:=List.mem_map.1 hp
  simp
 ·intro y hy
  obtain ⟨x,hx,rfl⟩:=List.mem_map.1 hy
  obtain ⟨j,hj,rfl,h0,hp,hn⟩:=rows_fact hok hx
  have hT:=checkE_zero.1 h0
  obtain ⟨a1,a2⟩:=args_wt hT.2.2 hp
  have e1:(kidX L 0 ((j:Int),R[j].1,[0])).2.2=argsN L R[j].1 0:=by simp [kidX,repl]
  have e2:numR ((j:Int),R[j].1,[0]) 0=R[j].1[0]:=numR_eq (x:=((j:Int),R[j].1,[0])) (c:=0) (by simp) hp
  rw [e2] at hn
  refine ⟨h0,?_,?_,?_⟩
  ·rw [e1,argsN_eq hp,starts_length,hn,hP]
  ·rw [e1];exact a2
  ·rw [e1]
   have:=endN_zero hT.2.2
   show wtL L R[j].1 (argsN L R[j].1 0)<2001
   omega
set_option maxHeartbeats 16000000 in
theorem rootOf_any {w:World} {b bs bt:Nat} {L:List Sym} {R:List Ru} {lv:Value} {vs:List Value} (hg:Sg w.heap.size w bt L) (h:StAt w b bs L R lv vs) {s:Nat} (hs:s<L.length) :
  Calls Tryz.prog 72 #[.pointer (some ⟨bt,0,none⟩),.pointer (some ⟨b,0,none⟩),.int .i64 (s:Int)] w fun e w' => ∃ po pc ro rc,e=.returned (.agg #[.pointer (some ⟨bt,0,none⟩),.slice po (rootP L s).length pc,.slice ro (rootR L R s).length rc])∧NdIn w' L 2001 bt po pc (rootP L s) ro (rootR L R s)∧Same0 w w' := by
 have hle:=h.le
 have hok:=h.ok
 have hol:=ofF_len (s:Int) R 0
 obtain ⟨W3,hW3⟩:∃ W3,W3=((w.alloc zeroNd).alloc (.cells #[] 3)).alloc (.cells #[.slice (some ⟨w.heap.size+1,0,none⟩) 0 0] 22):=⟨_,rfl⟩
 have KW:Same0 w W3:=by rw [hW3];exact (((Kept.refl _ w).alloc _).alloc _).alloc _
 have ez:W3.heap.size=w.heap.size+1+1+1:=by rw [hW3];simp
 have RS:Hid (∀ ww,Same0 W3 ww→ww.heap[w.heap.size]? = some (.cells #[.pointer none,.slice none 0 0,.slice none 0 0] 163 (0,0))):=fun ww hk=>hk.at0 (by
  have k2:Same0 (w.alloc zeroNd) W3:=by rw [hW3];exact ((Kept.refl _ _).alloc _).alloc _
  exact k2.at0 (heap_alloc_new w _))
 have PS:Hid (∀ ww,Same0 W3 ww→PsAt ww (some ⟨w.heap.size+1+1,0,none⟩) [[]]):=fun ww hk=>PsAt.same (by
  have h1:W3.heap[w.heap.size+1+1]? = some (.cells #[.slice (some ⟨w.heap.size+1,0,none⟩) 0 0] 22 (0,0)):=by
   have:=heap_al_al (w.alloc zeroNd) (.cells #[] 3) (.cells #[.slice (some ⟨w.heap.size+1,0,none⟩) 0 0] 22)
   rw [World.size_alloc] at this
   rw [hW3];exact this
  have h2:W3.heap[w.heap.size+1]? = some (.cells #[] 3 (0,0)):=by
   have k2:Same0 ((w.alloc zeroNd).alloc (.cells #[] 3)) W3:=by rw [hW3];exact (Kept.refl _ _).alloc _
   exact k2.at0 (heap_al_al _ _ _)
  refine .inr ⟨_,0,rfl,⟨_,h1⟩,fun i hi=>?_⟩
  obtain rfl:i=0:=by simp at hi;omega
  exact ⟨some ⟨w.heap.size+1,0,none⟩,0,cellAt h1 0,⟨.inl rfl,Nat.le_refl _,(fun e=>by cases e),by simp⟩,fun a e=>by cases e;exact ⟨_,h2⟩⟩) hk
 have HST:Hid (∀ ww,Same0 w ww→StAt ww b bs L R lv vs):=fun ww hk=>h.same hk
 have HSG:Hid (∀ ww,Same0 w ww→Sg ww.heap.size ww bt L):=fun ww hk=>sg_up (hg.same hk) hk.size
 have NB:Hid (NdOk L 2001 (rootP L s) (rootR L R s)):=root_ok hg.2 hle hok hs
 have HOF:Hid (∀ ww,Same0 W3 ww→Calls Tryz.prog 111 #[.pointer (some ⟨b,0,none⟩),.int .i64 (s:Int)] ww fun e w' => ∃ oo oc,e=.returned (.slice oo (ofF (s:Int) 0 R).length oc)∧Hid (ArgT w' oo (ofF (s:Int) 0 R) oc)∧Same0 ww w'):=fun ww hk=>(sof_any (HST.out ww (KW.trans' hk)) (s:Int)).mono (fun e w' ⟨v,e1,e2,e3⟩=>by
  obtain ⟨oo,oc,rfl,i1,_⟩:=e2.arg (by omega)
  exact ⟨oo,oc,e1,i1,e3⟩)
 have HFA:Hid (∀ x∈rowsOf R (ofF (s:Int) 0 R),∃ j,∃ h:j<R.length,x=((j:Int),R[j].1,[0])∧checkE L R[j].1=0∧0<R[j].1.length∧numR x 0=(s:Int)):=fun x hx=>rows_fact hok hx
 clear h hg
 have K4:Same0 W3 (W3.alloc (.cells #[.pointer (some ⟨bt,0,none⟩),.slice (some ⟨w.heap.size+1+1,0,none⟩) 1 1,.slice none 0 0] 163)):=(Kept.refl _ _).alloc _
 have C1:=HOF.out _ K4
 generalize hof:ofF (s:Int) 0 R=O at *
 go_enter Tryz.func72,Tryz.ntmps72
 go_upto_region 2 with fail
 rw [← hW3]
 have N0:Hid ((W3.alloc (.cells #[.pointer (some ⟨bt,0,none⟩),.slice (some ⟨w.heap.size+1+1,0,none⟩) 1 1,.slice none 0 0] 163)).heap[W3.heap.size]? = some (.cells #[.pointer (some ⟨bt,0,none⟩),.slice (some ⟨w.heap.size+1+1,0,none⟩) 1 1,.slice none 0 0] 163 (0,0))):=heap_alloc_new W3 _
 obtain ⟨kb,hkb⟩:∃ kb,kb=W3.heap.size:=⟨_,rfl⟩
 have HKB:Hid (kb=W3.heap.size):=hkb
 have ez3:w.heap.size+1+1+1=kb:=by rw [hkb,ez]
 rw [ez3]
 rw [← hkb] at N0
 have hzk:(W3.alloc (.cells #[.pointer (some ⟨bt,0,none⟩),.slice (some ⟨w.heap.size+1+1,0,none⟩) 1 1,.slice none 0 0] 163)).heap.size=kb+1:=by rw [hkb];simp
 have HZK:Hid (kb+1=(W3.alloc (.cells #[.pointer (some ⟨bt,0,none⟩),.slice (some ⟨w.heap.size+1+1,0,none⟩) 1 1,.slice none 0 0] 163)).heap.size):=hzk.symm
 clear hW3 hkb ez hzk
 go_upto_region 3 with (first | (go_at_call 111;refine C1.mono ?_;rintro e w5 ⟨oo,oc,rfl,hoi,k5⟩))
 have HOE:Hid (ofF (s:Int) 0 R=O):=hof
 have K5:Same0 W3 w5:=K4.trans' k5
 have N5:Hid (w5.heap[kb]? = some (.cells #[.pointer (some ⟨bt,0,none⟩),.slice (some ⟨w.heap.size+1+1,0,none⟩) 1 1,.slice none 0 0] 163 (0,0))):=k5.at0 N0.out
 have hkb5:kb+1≤w5.heap.size:=by rw [HZK.out];exact k5.size
 have HOI:Hid (∀ ww,Same0 w5 ww→ArgT ww oo O oc):=fun ww hk=>hoi.out.same hk
 clear hof N0 C1 HOF hoi K4 k5 hok
 go_loopw [20] (fun i wr=>∃ (j:Nat) (lv:Value) (us:List Value),j≤O.length∧i=.int .i64 (j:Int)∧Hid (wr.heap[kb]? = some (.cells #[.pointer (some ⟨bt,0,none⟩),.slice (some ⟨w.heap.size+1+1,0,none⟩) 1 1,lv] 163 (0,0)))∧Hid (wr.ownsRow (kb+1) 208 3 lv j us)∧Hid (WCells wr us (rowsOf R (O.take j)))∧Same0 W3 wr∧Hid (ArgT wr oo O oc)) (fun i _=>O.length-(intOf i).toNat)
 case atStart=>exact ⟨0,.slice none 0 0,[],Nat.zero_le _,rfl,N5,World.ownsRow_nil _ _ _ _,by simpa [Hid,rowsOf] using WCells.nil _,K5,HOI.out _ (Kept.refl _ _)⟩
 case round=>
  clear K5 N5 hkb5 HOI
  obtain ⟨j,lv,us,hj,rfl,hN,hr,hus,hw,hoi⟩:=hrel
  obtain ⟨lo,lc,rfl⟩:=row_shape hr.out
  by_cases hlt:j<O.length
  ·obtain ⟨ob,ooff,rfl,hob,hoc⟩:=hoi.out.1.at'.get hlt
   have hmem:(O[j],(R.getD O[j].toNat ([],[])).1,[0])∈rowsOf R O:=List.mem_map.2 ⟨O[j],List.getElem_mem hlt,rfl⟩
   obtain ⟨q,hq,hqe,hq0,hqp,hqn⟩:=HFA.out _ hmem
   have hOq:O[j]=(q:Int):=congrArg Prod.fst hqe
   have hkr:kb<wr.heap.size:=lt_of_at hN.out
   have hT:=checkE_zero.1 hq0
   have CA:=sat_yes (HST.out wr (KW.trans' hw)) q hq
   have CK:Hid (∀ ww g c', Same0 wr ww→TmAt ww g c' R[q].1→Calls Tryz.prog 59 #[.pointer (some ⟨bt,0,none⟩),.slice (some ⟨g,0,none⟩) R[q].1.length c'] ww fun e w' => e=.returned (.int .i64 0)∧Same0 ww w'):=fun ww g c' hk ht=>by
    have:=check_any (cap:=c') (HSG.out ww ((KW.trans' hw).trans' hk)) (TmAt.arg ht hT.1).at' (by unfold maxLen;omega)
    rw [hq0] at this
    exact this
   have i1:(0:Int)≤(j:Int):=by omega
   have i2:(j:Int)<(O.length:Int):=by omega
   rw [hOq] at hoc
   have CAH:Hid (Calls Tryz.prog 38 #[.pointer (some ⟨b,0,none⟩),.int .i64 (q:Int)] wr fun e w' => ∃ g c g' c', e=.returned (.tuple #[.agg #[.slice (some ⟨g,0,none⟩) R[q].1.length c,.slice (some ⟨g', 0,none⟩) R[q].2.length c'],.int .i64 0])∧Hid (TmAt w' g c R[q].1)∧Same0 wr w'):=CA.mono (fun e w' ⟨v,e1,⟨g,c,g', c', e2,t1,t2,_⟩,k⟩=>⟨g,c,g', c', by rw [e1,e2],t1,k⟩)
   have CA2:=CAH.out
   have hBX:Hid (∀ ww,Same0 wr ww→ww.cell? ⟨kb,2,none⟩=some (.slice lo j lc)):=fun ww hk=>cellAt (hk.at0 hN.out) 2
   have HRW:Hid (∀ ww,Same0 wr ww→ww.ownsRow (kb+1) 208 3 (.slice lo j lc) j us):=fun ww hk=>hk.row hr.out (fun _ _ f=>f)
   have hzz:Hid (∀ ww,Same0 wr ww→kb+1≤ww.heap.size):=fun ww hk=>by have:=hk.size;omega
   have hj1000:j≤1000:=by omega
   have FIN:Hid (∀ w7 g c q0 gg cap w11,Same0 wr w7→TmAt w7 g c R[q].1→ArgT w7 (some ⟨q0,0,none⟩) (ofN [0]) 1→w11.ownsRow (kb+1) 208 3 (.slice (some ⟨gg,0,none⟩) (j+1) cap) (j+1) (us ++ [.int .i64 (q:Int),.slice (some ⟨g,0,none⟩) R[q].1.length c,.slice (some ⟨q0,0,none⟩) 1 1])→Kept (fun k=>(Value.slice lo j lc).ownBlock=some k) w7 w11→(w11.cell? ⟨kb,2,none⟩=some (.slice lo j lc)∧w11.frozen? ⟨kb,2,none⟩=false)∧Hid (∃ us', Hid ((w11.setCell ⟨kb,2,none⟩ (.slice (some ⟨gg,0,none⟩) (j+1) cap)).heap[kb]? = some (.cells #[.pointer (some ⟨bt,0,none⟩),.slice (some ⟨w.heap.size+1+1,0,none⟩) 1 1,.slice (some ⟨gg,0,none⟩) (j+1) cap] 163 (0,0)))∧Hid ((w11.setCell ⟨kb,2,none⟩ (.slice (some ⟨gg,0,none⟩) (j+1) cap)).ownsRow (kb+1) 208 3 (.slice (some ⟨gg,0,none⟩) (j+1) cap) (j+1) us')∧Hid (WCells (w11.setCell ⟨kb,2,none⟩ (.slice (some ⟨gg,0,none⟩) (j+1) cap)) us' (rowsOf R (O.take (j+1))))∧Same0 W3 (w11.setCell ⟨kb,2,none⟩ (.slice (some ⟨gg,0,none⟩) (j+1) cap))∧Hid (ArgT (w11.setCell ⟨kb,2,none⟩ (.slice (some ⟨gg,0,none⟩) (j+1) cap)) (some ⟨ob,ooff,none⟩) O oc))):=by
    intro w7 g c q0 gg cap w11 k7 t7 a0 r11 k11
    have hr7:=k7.row hr.out (fun _ _ f=>f)
    have n7:=k7.at0 hN.out
    have nk:¬ (Value.slice lo j lc).ownBlock=some kb:=fun e=>by
     obtain ⟨cu,h5⟩:=own_blk hr7 e
     rw [n7] at h5;cases h5
    have n11:=k11.at n7 nk
    have ks:Kept (fun k=>k=kb) w11 (w11.setCell ⟨kb,2,none⟩ (.slice (some ⟨gg,0,none⟩) (j+1) cap)):=Kept.setCell (p:=⟨kb,2,none⟩) (Kept.refl (fun k=>k=kb) w11) (fun _=>rfl) _
    obtain ⟨xo,xc,e1,a1,_⟩:=Row.arg t7 (by omega)
    simp only [Value.slice.injEq] at e1
    obtain ⟨rfl,_,rfl⟩:=e1
    refine ⟨⟨cellAt n11 2,frozenAt n11 2⟩,us ++ [.int .i64 (q:Int),.slice (some ⟨g,0,none⟩) R[q].1.length c,.slice (some ⟨q0,0,none⟩) 1 1],setAt n11 2 _,?_,?_,?_,?_⟩
    ·exact ks.row r11 (fun k e f=>by
      obtain ⟨cu,h5⟩:=own_blk r11 e
      subst f
      rw [n11] at h5;cases h5)
    ·show WCells _ _ _
     have e5:rowsOf R (O.take (j+1))=rowsOf R (O.take j) ++ [((q:Int),R[q].1,[0])]:=by
      rw [List.take_add_one,List.getElem?_eq_getElem hlt]
      unfold rowsOf
      rw [List.map_append]
      congr 1
      rw [← hqe];rfl
     rw [e5]
     have:=(hus.out.same k7).snoc (x:=((q:Int),R[q].1,[0])) a1 a0
     exact (this.kept k11 (row_ty hr7)).kept ks (fun k e cur h5=>by subst e;rw [n11] at h5;cases h5)
    ·refine Kept.trans (Kept.trans (hw.trans' k7) k11 (fun i hi e=>?_)) ks (fun i hi e=>by have:=HKB.out;omega)
     have:=(hr7.lt i e).1
     have:=HKB.out
     omega
    ·exact (((hoi.out.same k7).kept k11 (row_ty hr7)).kept ks (fun k e cur h5=>by subst e;rw [n11] at h5;cases h5))
   have TA:Hid (∀ w8:World,ArgT (w8.alloc (.cells #[.int .i64 0] 3)) (some ⟨w8.heap.size,0,none⟩) (ofN [0]) 1):=fun w8=>⟨ints_arg w8 [0] 3 (by simp) rfl,fun a e=>by cases e;exact ⟨_,heap_alloc_new w8 _⟩⟩
   have XB:Hid (∀ w6 w8:World,∀ x y:Value,Same0 (w6.alloc (.cells #[x,y] 98)) w8→w8.cell? ⟨w6.heap.size,0,none⟩=some x):=fun w6 w8 x y hk=>cellAt (hk.at0 (heap_alloc_new w6 _)) 0
   clear CA CAH hN hr hus hoi hmem HFA hqe hq0 hqp hqn hOq hT hkr hw NB HOE PS RS HSG HST
   go_wp2_with (first
    | (go_at_call 38;refine CA2.mono ?_;rintro e w6 ⟨g,c', g', c'', rfl,ht,k6⟩;have ka:Same0 wr (w6.alloc (.cells #[.slice (some ⟨g,0,none⟩) R[q].1.length c', .slice (some ⟨g', 0,none⟩) R[q].2.length c''] 98)):=Kept.alloc k6 _;have kx:Same0 w6 (w6.alloc (.cells #[.slice (some ⟨g,0,none⟩) R[q].1.length c', .slice (some ⟨g', 0,none⟩) R[q].2.length c''] 98)):=(Kept.refl _ _).alloc _;have CK2:=CK.out _ g c' ka (ht.out.same kx))
    | (go_at_call 59;refine CK2.mono ?_;rintro e w8 ⟨rfl,k8⟩;have k18:=ka.trans' k8;have x0:=XB.out _ _ _ _ k8;have y0:=hBX.out _ k18;have t8:=(ht.out.same kx).same k8;have k7:Same0 wr (w8.alloc (.cells #[.int .i64 0] 3)):=Kept.alloc k18 _;have hz7:=hzz.out _ k7)
    | (at_builtin;refine wpList_rw (w0:=w8.alloc (.cells #[.int .i64 0] 3)) rfl _ _ rfl (kb+1) j us (.slice lo j lc) rfl ((Kept.refl _ _).alloc _) (HRW.out _ k7) (.int .i64 (q:Int)) (.slice (some ⟨g,0,none⟩) R[q].1.length c') (.slice (some ⟨w8.heap.size,0,none⟩) 1 1) (w8.heap.size+1) rfl (heap_al_al _ _ _) rfl rfl rfl hz7 hj1000 ?_;intro gg cap w11 r11 k11;obtain ⟨⟨y1,y2⟩,FF⟩:=FIN.out _ g c' w8.heap.size gg cap w11 k7 (t8.same ((Kept.refl _ _).alloc _)) (TA.out w8) r11 k11))
   obtain ⟨us', z1,z2,z3,z4,z5⟩:=FF.out
   exact ⟨⟨j+1,_,us', by omega,by go_num,z1,z2,z3,z4,z5⟩,by simp [intOf];omega⟩
  ·obtain rfl:j=O.length:=by omega
   have hN' := hN.out
   have rs:=RS.out wr hw
   have n0:=cellAt hN' 0
   have n1:=cellAt hN' 1
   have n2:=cellAt hN' 2
   simp only [List.getElem?_toArray,List.getElem?_cons_zero,List.getElem?_cons_succ] at n0 n1 n2
   have hus' := hus.out
   rw [List.take_length] at hus'
   obtain ⟨ro,rc,e1,r1,r2, -⟩:=row_rows hr.out hus'
   have hol2:(rowsOf R O).length=O.length:=by simp [rowsOf]
   rw [hol2] at e1
   have KI:KidIn wr L bt (some ⟨w.heap.size+1+1,0,none⟩) 1 [[]] 0 s ro (rowsOf R O):=⟨HSG.out wr (KW.trans' hw),PS.out wr hw,(fun e=>by cases e),Nat.le_refl _,by simp,hs,r1,by omega,by simp,by simp,fun x hx=>by
    obtain ⟨q,hq,rfl,h0,hp,hn⟩:=HFA.out x hx
    exact ⟨h0,rfl,fun p hp' => by simp at hp'; subst hp'; exact hp,hn⟩⟩
   have CKD:=kid_any KI (no:=ro) (nl:=O.length) (nc:=rc) (hcap:=rc)
   simp only [Value.slice.injEq] at e1
   obtain ⟨rfl, -,rfl⟩:=e1
   rw [hol2] at CKD
   have RC:Hid (∀ ww,Same0 W3 ww→(ww.cell? ⟨w.heap.size,0,none⟩=some (.pointer none)∧ww.cell? ⟨w.heap.size,1,none⟩=some (.slice none 0 0)∧ww.cell? ⟨w.heap.size,2,none⟩=some (.slice none 0 0))∧ww.frozen? ⟨w.heap.size,0,none⟩=false∧ww.frozen? ⟨w.heap.size,1,none⟩=false∧ww.frozen? ⟨w.heap.size,2,none⟩=false):=fun ww hk=>by
    have rs:=RS.out ww hk
    exact ⟨⟨cellAt rs 0,cellAt rs 1,cellAt rs 2⟩,frozenAt rs 0,frozenAt rs 1,frozenAt rs 2⟩
   have FIN:Hid (∀ w9 po pc xo xc,Same0 wr w9→PsAt w9 po (kidP L [[]] 0 s)→(po=none→pc=0)→(kidP L [[]] 0 s).length≤pc→RwAt w9 xo ((rowsOf R O).map (kidX L 0))→((((w9.setCell ⟨w.heap.size,0,none⟩ (.pointer (some ⟨bt,0,none⟩))).setCell ⟨w.heap.size,1,none⟩ (.slice po (kidP L [[]] 0 s).length pc)).setCell ⟨w.heap.size,2,none⟩ (.slice xo O.length xc)).cell? ⟨w.heap.size,0,none⟩=some (.pointer (some ⟨bt,0,none⟩))∧(((w9.setCell ⟨w.heap.size,0,none⟩ (.pointer (some ⟨bt,0,none⟩))).setCell ⟨w.heap.size,1,none⟩ (.slice po (kidP L [[]] 0 s).length pc)).setCell ⟨w.heap.size,2,none⟩ (.slice xo O.length xc)).cell? ⟨w.heap.size,1,none⟩=some (.slice po (kidP L [[]] 0 s).length pc)∧(((w9.setCell ⟨w.heap.size,0,none⟩ (.pointer (some ⟨bt,0,none⟩))).setCell ⟨w.heap.size,1,none⟩ (.slice po (kidP L [[]] 0 s).length pc)).setCell ⟨w.heap.size,2,none⟩ (.slice xo O.length xc)).cell? ⟨w.heap.size,2,none⟩=some (.slice xo O.length xc))∧∃ po' pc' ro' rc', Ending.returned (Value.agg #[.pointer (some ⟨bt,0,none⟩),.slice po (kidP L [[]] 0 s).length pc,.slice xo O.length xc])=.returned (.agg #[.pointer (some ⟨bt,0,none⟩),.slice po' (rootP L s).length pc', .slice ro' (rootR L R s).length rc'])∧NdIn (((w9.setCell ⟨w.heap.size,0,none⟩ (.pointer (some ⟨bt,0,none⟩))).setCell ⟨w.heap.size,1,none⟩ (.slice po (kidP L [[]] 0 s).length pc)).setCell ⟨w.heap.size,2,none⟩ (.slice xo O.length xc)) L 2001 bt po' pc' (rootP L s) ro' (rootR L R s)∧Same0 w (((w9.setCell ⟨w.heap.size,0,none⟩ (.pointer (some ⟨bt,0,none⟩))).setCell ⟨w.heap.size,1,none⟩ (.slice po (kidP L [[]] 0 s).length pc)).setCell ⟨w.heap.size,2,none⟩ (.slice xo O.length xc))):=by
    intro w9 po pc xo xc k9 p1 p2 p3 p4
    have rs9:=RS.out w9 (hw.trans' k9)
    have s3:=setAt (setAt (setAt rs9 0 (.pointer (some ⟨bt,0,none⟩))) 1 (.slice po (kidP L [[]] 0 s).length pc)) 2 (.slice xo O.length xc)
    have k1:=Kept.setCell (p:=⟨w.heap.size,0,none⟩) (Kept.refl (fun q=>q=w.heap.size) w9) (fun _=>rfl) (.pointer (some ⟨bt,0,none⟩))
    have k2:=Kept.setCell (p:=⟨w.heap.size,1,none⟩) k1 (fun _=>rfl) (.slice po (kidP L [[]] 0 s).length pc)
    have kk:=Kept.setCell (p:=⟨w.heap.size,2,none⟩) k2 (fun _=>rfl) (.slice xo O.length xc)
    have kS:=Kept.trans ((KW.trans' hw).trans' k9) kk (fun i hi e=>by omega)
    have nb:∀ q,q=w.heap.size→NdB w9 q:=fun q e=>by subst e;exact ⟨_,rs9⟩
    refine ⟨⟨cellAt s3 0,cellAt s3 1,cellAt s3 2⟩,po,pc,xo,xc,?_,⟨HSG.out _ kS,p1.keptN kk nb,p2,p3,?_,NB.out⟩,kS⟩
    ·have:(rootR L R s).length=O.length:=by unfold rootR;rw [HOE.out,List.length_map,hol2]
     rw [this];rfl
    ·have:rootR L R s=(rowsOf R O).map (kidX L 0):=by unfold rootR;rw [HOE.out]
     rw [this];exact p4.keptN kk nb
   have CKH:Hid (Calls Tryz.prog 112 #[.agg #[.pointer (some ⟨bt,0,none⟩),.slice (some ⟨w.heap.size+1+1,0,none⟩) 1 1,.slice lo O.length lc],.int .i64 0,.int .i64 (s:Int),.slice lo O.length lc] wr fun e w' => ∃ po pc xo xc,e=.returned (.agg #[.pointer (some ⟨bt,0,none⟩),.slice po (kidP L [[]] 0 s).length pc,.slice xo O.length xc])∧Hid (PsAt w' po (kidP L [[]] 0 s)∧(po=none→pc=0)∧(kidP L [[]] 0 s).length≤pc∧RwAt w' xo ((rowsOf R O).map (kidX L 0)))∧Same0 wr w'):=CKD.mono (fun e w' ⟨po,pc,xo,xc,q1,q2,q3,q4,q5,q6,q7⟩=>⟨po,pc,xo,xc,by rw [q1,hol2],⟨q2,q3,q4,q5⟩,q7⟩)
   have CK3:=CKH.out
   clear hN hr hus hN' rs hus' r1 r2 KI CKD CKH hol2 hoi HFA NB HOE PS RS HSG HST
   go_wp2_with (first | (go_at_call 112;refine CK3.mono ?_;rintro e w9 ⟨po,pc,xo,xc,rfl,hq,k9⟩;obtain ⟨⟨q0,q1,q2⟩,f0,f1,f2⟩:=RC.out w9 (hw.trans' k9)))
   obtain ⟨p1,p2,p3,p4⟩:=hq.out
   obtain ⟨⟨g0,g1,g2⟩,FF⟩:=FIN.out w9 po pc xo xc k9 p1 p2 p3 p4
   exact bodyPost_ret (v:=.agg #[.pointer (some ⟨bt,0,none⟩),.slice po (kidP L [[]] 0 s).length pc,.slice xo O.length xc]) (by simp [results,Tryz.results72,go_sem,g0,g1,g2]) rfl FF
set_option maxHeartbeats 1000000 in
theorem tdef_any {n b:Nat} {w:World} {L:List Sym} (h:Sg n w b L) (x:Int) :
  Calls Tryz.prog 69 #[.pointer (some ⟨b,0,none⟩),.int .i64 x] w fun e w' => e=.returned (.bool (defB L x))∧Same0 w w' := by
 by_cases hx:x<0∨(L.length:Int)≤x
 ·have H1:Hid (defB L x=false):=defB_no hx
  have c:=sg_at_no h hx
  clear h
  go_enter Tryz.func69,Tryz.ntmps69
  go_wp2_with (first | (go_at_call 105;refine c.mono ?_;rintro e w' ⟨rfl,hk⟩))
  go_ret
  exact ⟨by rw [H1.out];rfl,Kept.alloc hk _⟩
 ·obtain ⟨i,rfl⟩:∃ i:Nat,x=(i:Int):=⟨x.toNat,by omega⟩
  have hi:i<L.length:=by omega
  have H1:Hid (defB L (i:Int)=L[i].df):=defB_at hi
  have c:=sg_at_yes h hi
  clear h
  go_enter Tryz.func69,Tryz.ntmps69
  go_wp2_with (first | (go_at_call 105;refine c.mono ?_;rintro e w' ⟨rfl,hk⟩))
  go_ret
  exact ⟨by rw [H1.out];rfl,Kept.alloc hk _⟩
theorem assert_flt (v:Value) (w:World):(Instr.typeAssert (.iface 123 v) 20 123 true).run Tryz.prog w=.ok (.tuple #[v,.bool true]) w:=by kernel_rfl
set_option maxHeartbeats 1000000 in
theorem forkOf_any (k:Nat) (w:World):Calls Tryz.prog 71 #[.iface 123 (.pointer (some ⟨k,0,none⟩))] w fun e w' => e=.returned (.iface 123 (.pointer (some ⟨k,0,none⟩)))∧w' = w:=by
 have hta:=assert_flt (.pointer (some ⟨k,0,none⟩)) w
 go_enter Tryz.func71,Tryz.ntmps71
 go_wp2_with fail
 go_ret
 exact ⟨rfl,rfl⟩
theorem any_ne (v:Value) (w:World):(binOp .neq 20 (.iface 123 v) .nilIface).run Tryz.prog w=.ok (.bool true) w:=by kernel_rfl
theorem any_nil (w:World):(binOp .neq 20 .nilIface .nilIface).run Tryz.prog w=.ok (.bool false) w:=by kernel_rfl
set_option maxHeartbeats 2000000 in
theorem catch_fork {ps pe:Nat} {s:Int} (k:Nat) (w:World) (hs:w.cell? ⟨ps,0,none⟩=some (.int .i64 s)) {x:Value} (he:w.heap[pe]? = some (.cells #[x] 47 (0,0))) (hpe:¬ ps=pe) :
  CallsD Tryz.prog 70 #[.pointer (some ⟨ps,0,none⟩),.pointer (some ⟨pe,0,none⟩)] (.panicking [{ v:=.iface 123 (.pointer (some ⟨k,0,none⟩)),recovered:=false }]) w fun e u' w' =>
   e=.returned (.tuple #[])∧u' = .panicking [{ v:=.iface 123 (.pointer (some ⟨k,0,none⟩)),recovered:=true }]∧∃ q,w'.heap[q]? = some (.cells #[.int .i64 81,.int .i64 s,.iface 123 (.pointer (some ⟨k,0,none⟩))] 125 (0,0))∧w'.heap[pe]? = some (.cells #[.iface 123 (.pointer (some ⟨q,0,none⟩))] 47 (0,0))∧Kept (fun i=>i=pe) w w' := by
 have hne:=any_ne
 have hfk:=forkOf_any
 have c0:=cellAt he 0
 have f0:=frozenAt he 0
 simp only [List.getElem?_toArray,List.getElem?_cons_zero] at c0
 refine callsD_of_wpS Tryz.func70 rfl fun c₀ cs hu=>?_
 apply wpS_seq
 apply wpS_region
 simp [wpOpsS,go_sem,recoverD,hu,Tryz.ntmps70,Exit.thenS]
 apply wpS_of_wp
 have d0:w.drew.cell? ⟨ps,0,none⟩=some (.int .i64 s):=hs
 have fa:∀ o,(w.drew.alloc o).cell? ⟨pe,0,none⟩=some x:=fun o=>cell_al (w:=w.drew) c0 o
 have fz:∀ o,(w.drew.alloc o).frozen? ⟨pe,0,none⟩=false:=fun o=>frozenAt (Same0.at0 (Kept.alloc (Kept.drew (Kept.refl (fun _=>False) w)) o) he) 0
 have FIN:Hid (∃ q,((w.drew.alloc (.cells #[.int .i64 81,.int .i64 s,.iface 123 (.pointer (some ⟨k,0,none⟩))] 125)).setCell ⟨pe,0,none⟩ (.iface 123 (.pointer (some ⟨w.heap.size,0,none⟩)))).heap[q]? = some (.cells #[.int .i64 81,.int .i64 s,.iface 123 (.pointer (some ⟨k,0,none⟩))] 125 (0,0))∧((w.drew.alloc (.cells #[.int .i64 81,.int .i64 s,.iface 123 (.pointer (some ⟨k,0,none⟩))] 125)).setCell ⟨pe,0,none⟩ (.iface 123 (.pointer (some ⟨w.heap.size,0,none⟩)))).heap[pe]? = some (.cells #[.iface 123 (.pointer (some ⟨q,0,none⟩))] 47 (0,0))∧Kept (fun i=>i=pe) w ((w.drew.alloc (.cells #[.int .i64 81,.int .i64 s,.iface 123 (.pointer (some ⟨k,0,none⟩))] 125)).setCell ⟨pe,0,none⟩ (.iface 123 (.pointer (some ⟨w.heap.size,0,none⟩))))):=by
  have ka:Same0 w (w.drew.alloc (.cells #[.int .i64 81,.int .i64 s,.iface 123 (.pointer (some ⟨k,0,none⟩))] 125)):=Kept.alloc (Kept.drew (Kept.refl _ w)) _
  have ks:=Kept.setCell (p:=⟨pe,0,none⟩) (Kept.refl (fun i=>i=pe) (w.drew.alloc (.cells #[.int .i64 81,.int .i64 s,.iface 123 (.pointer (some ⟨k,0,none⟩))] 125))) (fun _=>rfl) (.iface 123 (.pointer (some ⟨w.heap.size,0,none⟩)))
  have hp:pe<w.heap.size:=lt_of_at he
  exact ⟨w.heap.size,ks.at (heap_alloc_new w.drew _) (fun e=>by omega),setAt (ka.at0 he) 0 _,Kept.trans ka.mono' ks (fun _ _ e=>e)⟩
 clear he
 go_wp2_with fail
 have fa1:=fa (.cells #[.int .i64 81,.int .i64 s,.iface 123 (.pointer (some ⟨k,0,none⟩))] 125)
 have fz1:=fz (.cells #[.int .i64 81,.int .i64 s,.iface 123 (.pointer (some ⟨k,0,none⟩))] 125)
 have fs1:(w.drew.alloc (.cells #[.int .i64 81,.int .i64 s,.iface 123 (.pointer (some ⟨k,0,none⟩))] 125)).cell? ⟨ps,0,none⟩=some (.int .i64 s):=cell_al (w:=w.drew) hs _
 have fs2:((w.drew.alloc (.cells #[.int .i64 81,.int .i64 s,.iface 123 (.pointer (some ⟨k,0,none⟩))] 125)).setCell ⟨pe,0,none⟩ (.iface 123 (.pointer (some ⟨w.heap.size,0,none⟩)))).cell? ⟨ps,0,none⟩=some (.int .i64 s):=by
  have ks:=Kept.setCell (p:=⟨pe,0,none⟩) (Kept.refl (fun i=>i=pe) (w.drew.alloc (.cells #[.int .i64 81,.int .i64 s,.iface 123 (.pointer (some ⟨k,0,none⟩))] 125))) (fun _=>rfl) (.iface 123 (.pointer (some ⟨w.heap.size,0,none⟩)))
  exact (ks.cell (p:=⟨ps,0,none⟩) (World.block_lt_of_cell? _ _ fs1) hpe).trans fs1
 have fa2:(w.alloc (.cells #[.int .i64 81,.int .i64 s,.iface 123 (.pointer (some ⟨k,0,none⟩))] 125)).cell? ⟨pe,0,none⟩=some x:=fa1
 have fz2:(w.alloc (.cells #[.int .i64 81,.int .i64 s,.iface 123 (.pointer (some ⟨k,0,none⟩))] 125)).frozen? ⟨pe,0,none⟩=false:=fz1
 clear fa fz
 refine wp_region_held_drew (S:=fun w' => w'.cell? ⟨ps,0,none⟩=some (.int .i64 s)) (by kernel_rfl) d0 (fun hHeld=>?_)
 refine wpAnyH_take (i:=0) (v:=.int .i64 s) rfl (by kernel_rfl) (by kernel_rfl) (by kernel_rfl) (fun _ _ _ h=>h) (.inl ⟨rfl,fun w' hS=>by simp [go_sem,hS]⟩) hHeld ?_
 refine wpAnyH_take (i:=1) (v:=.iface 123 (.pointer (some ⟨k,0,none⟩))) rfl (by kernel_rfl) (by kernel_rfl) (by kernel_rfl) (fun _ _ _ h=>h) (.inl ⟨rfl,fun w' hS=>by simp [go_sem]⟩) hHeld ?_
 refine wpAnyH_ready (rs:=[2]) (by kernel_rfl) (by simp) ?_
 refine AllReadyH.cons rfl (fun K hK=>?_) AllReadyH.nil
 refine step_callx rfl (hfk k w.drew) (by simp [go_sem]) ?_
 rintro e w2 ⟨rfl,rfl⟩
 refine ⟨_,rfl,?_⟩
 refine hK.out _ _ d0 (fun hHeld=>?_)
 clear hK K
 refine wpAnyH_take (i:=3) (v:=.agg #[.int .i64 81,.int .i64 s,.iface 123 (.pointer (some ⟨k,0,none⟩))]) rfl (by kernel_rfl) (by kernel_rfl) (by kernel_rfl) (fun _ _ _ h=>h) (.inl ⟨rfl,fun w' hS=>by simp [go_sem]⟩) hHeld ?_
 refine wpAnyH_ready (rs:=[4]) (by kernel_rfl) (by simp) ?_
 refine AllReadyH.cons rfl (fun K hK=>?_) AllReadyH.nil
 go_simp
 refine hK.out _ _ fs1 (fun hHeld=>?_)
 clear hK K
 refine wpAnyH_take (i:=5) (v:=.iface 123 (.pointer (some ⟨w.heap.size,0,none⟩))) rfl (by kernel_rfl) (by kernel_rfl) (by kernel_rfl) (fun _ _ _ h=>h) (.inl ⟨rfl,fun w' hS=>by simp [go_sem]⟩) hHeld ?_
 refine wpAnyH_ready (rs:=[6]) (by kernel_rfl) (by simp) ?_
 refine AllReadyH.cons rfl (fun K hK=>?_) AllReadyH.nil
 go_simp
 refine hK.out _ _ fs2 (fun hHeld=>?_)
 clear hK K
 refine wpAnyH_done (by kernel_rfl) ?_ _
 go_wp2_with fail
 simp [go_sem,bodyPostS,results,Tryz.results70]
 exact FIN.out
set_option maxHeartbeats 2000000 in
theorem catch_none {ps pe:Nat} (w:World) :
  CallsD Tryz.prog 70 #[.pointer (some ⟨ps,0,none⟩),.pointer (some ⟨pe,0,none⟩)] .returning w fun e u' w' => e=.returned (.tuple #[])∧u' = .returning∧w' = w:=by
 have hne:=any_nil
 refine callsD_of_wpS Tryz.func70 rfl fun c₀ cs hu=>?_
 apply wpS_seq
 apply wpS_region
 simp [wpOpsS,go_sem,recoverD,hu,Tryz.ntmps70,Exit.thenS]
 apply wpS_of_wp
 go_wp2_with fail
 simp [go_sem,bodyPostS,results,Tryz.results70]
 cases c₀
 simp only at hu
 subst hu
 rfl
theorem m_arg (v : Value) (w : World) : (Go.method 445 70 v "Arg").run Tryz.prog w = .ok (31, v) w := by kernel_rfl
theorem m_head (v : Value) (w : World) : (Go.method 445 70 v "Head").run Tryz.prog w = .ok (29, v) w := by kernel_rfl
set_option maxHeartbeats 2000000 in
theorem cask_none {p0 p1 p2 p3:Nat} (w:World) :
  CallsD Tryz.prog 169 #[.pointer (some ⟨p0,0,none⟩),.pointer (some ⟨p1,0,none⟩),.pointer (some ⟨p2,0,none⟩),.pointer (some ⟨p3,0,none⟩)] .returning w fun e u' w' => e=.returned (.tuple #[])∧u' = .returning∧w' = w:=by
 have hne:=any_nil
 refine callsD_of_wpS Tryz.func169 rfl fun c₀ cs hu=>?_
 apply wpS_seq
 apply wpS_region
 simp [wpOpsS,go_sem,recoverD,hu,Tryz.ntmps169,Exit.thenS]
 apply wpS_of_wp
 go_wp2_with fail
 simp [go_sem,bodyPostS,results,Tryz.results169]
 cases c₀
 simp only at hu
 subst hu
 rfl
theorem five_new (w:World) (o0 o1 o2 o3 o4:Obj):Same0 w (((((w.alloc o0).alloc o1).alloc o2).alloc o3).alloc o4)∧(((((w.alloc o0).alloc o1).alloc o2).alloc o3).alloc o4).heap[w.heap.size]? = some o0∧(((((w.alloc o0).alloc o1).alloc o2).alloc o3).alloc o4).heap[w.heap.size+1]? = some o1∧(((((w.alloc o0).alloc o1).alloc o2).alloc o3).alloc o4).heap[w.heap.size+1+1]? = some o2∧(((((w.alloc o0).alloc o1).alloc o2).alloc o3).alloc o4).heap[w.heap.size+1+1+1]? = some o3∧(((((w.alloc o0).alloc o1).alloc o2).alloc o3).alloc o4).heap[w.heap.size+1+1+1+1]? = some o4:=by
 obtain ⟨A,hA⟩:∃ A,A=w.alloc o0:=⟨_,rfl⟩
 obtain ⟨B,hB⟩:∃ B,B=A.alloc o1:=⟨_,rfl⟩
 obtain ⟨C,hC⟩:∃ C,C=B.alloc o2:=⟨_,rfl⟩
 obtain ⟨D,hD⟩:∃ D,D=C.alloc o3:=⟨_,rfl⟩
 have a0:A.heap[w.heap.size]? = some o0:=by rw [hA];exact heap_alloc_new _ _
 have a1:B.heap[A.heap.size]? = some o1:=by rw [hB];exact heap_alloc_new _ _
 have a2:C.heap[B.heap.size]? = some o2:=by rw [hC];exact heap_alloc_new _ _
 have a3:D.heap[C.heap.size]? = some o3:=by rw [hD];exact heap_alloc_new _ _
 have a4:(D.alloc o4).heap[D.heap.size]? = some o4:=heap_alloc_new _ _
 have kA:Same0 w A:=by rw [hA];exact (Kept.refl _ _).alloc _
 have kB:Same0 A B:=by rw [hB];exact (Kept.refl _ _).alloc _
 have kC:Same0 B C:=by rw [hC];exact (Kept.refl _ _).alloc _
 have kD:Same0 C D:=by rw [hD];exact (Kept.refl _ _).alloc _
 have kE:Same0 D (D.alloc o4):=(Kept.refl _ _).alloc _
 have sA:A.heap.size=w.heap.size+1:=by rw [hA];simp
 have sB:B.heap.size=w.heap.size+1+1:=by rw [hB];simp [sA]
 have sC:C.heap.size=w.heap.size+1+1+1:=by rw [hC];simp [sB]
 have sD:D.heap.size=w.heap.size+1+1+1+1:=by rw [hD];simp [sC]
 rw [sA] at a1
 rw [sB] at a2
 rw [sC] at a3
 rw [sD] at a4
 rw [← hA,← hB,← hC,← hD]
 exact ⟨(((kA.trans' kB).trans' kC).trans' kD).trans' kE,kE.at0 (kD.at0 (kC.at0 (kB.at0 a0))),kE.at0 (kD.at0 (kC.at0 a1)),kE.at0 (kD.at0 a2),kE.at0 a3,a4⟩
structure AskB (w:World) (n:Nat) (cs:Array Value) (x y:Int) (wr:World):Prop where
 same:Same0 w wr
 le:w.heap.size≤n
 bx:wr.heap[n]? = some (.cells cs 151 (0,0))
 b1:wr.heap[n+1]? = some (.cells #[.int .i64 x] 3 (0,0))
 b2:wr.heap[n+1+1]? = some (.cells #[.int .i64 y] 3 (0,0))
 b3:wr.heap[n+1+1+1]? = some (.cells #[.bool false] 4 (0,0))
 b4:wr.heap[n+1+1+1+1]? = some (.cells #[.int .i64 0] 58 (0,0))
theorem AskB.up {w:World} {n:Nat} {cs:Array Value} {x y:Int} {wr w' : World} (h:AskB w n cs x y wr) (hk:Same0 wr w'):AskB w n cs x y w' :=
 ⟨h.same.trans' hk,h.le,hk.at0 h.bx,hk.at0 h.b1,hk.at0 h.b2,hk.at0 h.b3,hk.at0 h.b4⟩
theorem AskB.setx {w:World} {n:Nat} {cs:Array Value} {x y:Int} {wr:World} (h:AskB w n cs x y wr) (z:Int):AskB w n cs z y (wr.setCell ⟨n+1,0,none⟩ (.int .i64 z)):=by
 have k:=kept_at wr (n+1) 0 (.int .i64 z)
 have hle:=h.le
 exact ⟨Kept.trans h.same k (fun i hi e=>by omega),h.le,k.at h.bx (fun e=>by omega),setAt h.b1 0 _,k.at h.b2 (fun e=>by omega),k.at h.b3 (fun e=>by omega),k.at h.b4 (fun e=>by omega)⟩
theorem AskB.sety {w:World} {n:Nat} {cs:Array Value} {x y:Int} {wr:World} (h:AskB w n cs x y wr) (z:Int):AskB w n cs x z (wr.setCell ⟨n+1+1,0,none⟩ (.int .i64 z)):=by
 have k:=kept_at wr (n+1+1) 0 (.int .i64 z)
 have hle:=h.le
 exact ⟨Kept.trans h.same k (fun i hi e=>by omega),h.le,k.at h.bx (fun e=>by omega),k.at h.b1 (fun e=>by omega),setAt h.b2 0 _,k.at h.b3 (fun e=>by omega),k.at h.b4 (fun e=>by omega)⟩
theorem AskB.setb {w:World} {n:Nat} {cs:Array Value} {x y:Int} {wr:World} (h:AskB w n cs x y wr):AskB w n cs x y (wr.setCell ⟨n+1+1+1,0,none⟩ (.bool false)):=by
 have k:=kept_at wr (n+1+1+1) 0 (.bool false)
 have hle:=h.le
 exact ⟨Kept.trans h.same k (fun i hi e=>by omega),h.le,k.at h.bx (fun e=>by omega),k.at h.b1 (fun e=>by omega),k.at h.b2 (fun e=>by omega),setAt h.b3 0 _,k.at h.b4 (fun e=>by omega)⟩
theorem AskB.sete {w:World} {n:Nat} {cs:Array Value} {x y:Int} {wr:World} (h:AskB w n cs x y wr):AskB w n cs x y (wr.setCell ⟨n+1+1+1+1,0,none⟩ (.int .i64 0)):=by
 have k:=kept_at wr (n+1+1+1+1) 0 (.int .i64 0)
 have hle:=h.le
 exact ⟨Kept.trans h.same k (fun i hi e=>by omega),h.le,k.at h.bx (fun e=>by omega),k.at h.b1 (fun e=>by omega),k.at h.b2 (fun e=>by omega),k.at h.b3 (fun e=>by omega),setAt h.b4 0 _⟩
theorem AskB.cells {w:World} {n:Nat} {cs:Array Value} {x y:Int} {wr:World} (h:AskB w n cs x y wr):(wr.cell? ⟨n+1,0,none⟩=some (.int .i64 x)∧wr.cell? ⟨n+1+1,0,none⟩=some (.int .i64 y)∧wr.cell? ⟨n+1+1+1,0,none⟩=some (.bool false)∧wr.cell? ⟨n+1+1+1+1,0,none⟩=some (.int .i64 0))∧wr.frozen? ⟨n+1,0,none⟩=false∧wr.frozen? ⟨n+1+1,0,none⟩=false∧wr.frozen? ⟨n+1+1+1,0,none⟩=false∧wr.frozen? ⟨n+1+1+1+1,0,none⟩=false:=
 ⟨⟨cellAt h.b1 0,cellAt h.b2 0,cellAt h.b3 0,cellAt h.b4 0⟩,frozenAt h.b1 0,frozenAt h.b2 0,frozenAt h.b3 0,frozenAt h.b4 0⟩
def wayI (L:List Sym) (ok:Bool) (T:List Int) (node:Int) (p:List Int):Int:=p.foldl (fun x n=>argI L ok T x n) node
theorem wayI_take {L:List Sym} {ok:Bool} {T:List Int} {node:Int} {p:List Int} {k:Nat} (h:k<p.length):wayI L ok T node (p.take (k+1))=argI L ok T (wayI L ok T node (p.take k)) p[k]:=by
 have e:p.take (k+1)=p.take k ++ [p[k]]:=by rw [List.take_add_one,List.getElem?_eq_getElem h];rfl
 unfold wayI
 rw [e,List.foldl_append];rfl
set_option maxHeartbeats 16000000 in
theorem cask_any {base:Nat} {w:World} {L:List Sym} {ok:Bool} {T:List Int} {ho:Option Addr} {hn hc:Nat} {go:Option Addr} {gn gc:Nat} (hv:VwAt base w L ok T (.agg #[.slice ho hn hc,.slice go gn gc])) {po:Option Addr} {pc:Nat} {p:List Int} (hp:IntsAt w po p) (hm:p.length≤maxLen) (c0 c1 c2 c3:Option Addr) (l0 l1 l2 l3 d0 d1 d2 d3:Nat) (node:Int) :
  Calls Tryz.prog 139 #[.agg #[.slice c0 l0 d0,.slice c1 l1 d1,.slice c2 l2 d2,.slice c3 l3 d3,.iface 70 (.agg #[.slice ho hn hc,.slice go gn gc]),.int .i64 node],.slice po p.length pc] w fun e w' => e=.returned (.tuple #[.int .i64 (wayI L ok T node p),.int .i64 (headI ok T (wayI L ok T node p)),.bool false,.int .i64 0])∧Same0 w w' := by
 have mA:=m_arg
 have mH:=m_head
 unfold maxLen at hm
 obtain ⟨W1,hW1⟩:∃ W1,W1=((((w.alloc (.cells #[.slice c0 l0 d0,.slice c1 l1 d1,.slice c2 l2 d2,.slice c3 l3 d3,.iface 70 (.agg #[.slice ho hn hc,.slice go gn gc]),.int .i64 node] 151)).alloc (.cells #[.int .i64 0] 3)).alloc (.cells #[.int .i64 0] 3)).alloc (.cells #[.bool false] 4)).alloc (.cells #[.int .i64 0] 58):=⟨_,rfl⟩
 have A1:AskB w w.heap.size #[.slice c0 l0 d0,.slice c1 l1 d1,.slice c2 l2 d2,.slice c3 l3 d3,.iface 70 (.agg #[.slice ho hn hc,.slice go gn gc]),.int .i64 node] 0 0 W1:=by
  obtain ⟨q0,q1,q2,q3,q4,q5⟩:=five_new w (.cells #[.slice c0 l0 d0,.slice c1 l1 d1,.slice c2 l2 d2,.slice c3 l3 d3,.iface 70 (.agg #[.slice ho hn hc,.slice go gn gc]),.int .i64 node] 151) (.cells #[.int .i64 0] 3) (.cells #[.int .i64 0] 3) (.cells #[.bool false] 4) (.cells #[.int .i64 0] 58)
  rw [← hW1] at q0 q1 q2 q3 q4 q5
  exact ⟨q0,Nat.le_refl _,q1,q2,q3,q4,q5⟩
 have HP:Hid (∀ ww k (hk:k<p.length),Same0 w ww→∃ pb off,po=some ⟨pb,off,none⟩∧ww.cell? ⟨pb,off+k,none⟩=some (.int .i64 p[k])):=fun ww k hk hs=>by
  obtain ⟨pb,off,e,_,hcc⟩:=(hp.same hs).get hk
  exact ⟨pb,off,e,hcc⟩
 have CA:Hid (∀ ww x z,Same0 w ww→Calls Tryz.prog 31 #[.agg #[.slice ho hn hc,.slice go gn gc],.int .i64 x,.int .i64 z] ww fun e w' => e=.returned (.int .i64 (argI L ok T x z))∧Same0 ww w'):=fun ww x z hk=>arg_any (hv.same hk) x z
 have CH:Hid (∀ ww x,Same0 w ww→Calls Tryz.prog 29 #[.agg #[.slice ho hn hc,.slice go gn gc],.int .i64 x] ww fun e w' => e=.returned (.tuple #[.int .i64 (headI ok T x),.bool false])∧Same0 ww w'):=fun ww x hk=>head_any (hv.same hk) x
 have BX:Hid (∀ x y ww,AskB w w.heap.size #[.slice c0 l0 d0,.slice c1 l1 d1,.slice c2 l2 d2,.slice c3 l3 d3,.iface 70 (.agg #[.slice ho hn hc,.slice go gn gc]),.int .i64 node] x y ww→ww.cell? ⟨w.heap.size,4,none⟩=some (.iface 70 (.agg #[.slice ho hn hc,.slice go gn gc]))∧ww.cell? ⟨w.heap.size,5,none⟩=some (.int .i64 node)):=fun x y ww h=>⟨cellAt h.bx 4,cellAt h.bx 5⟩
 obtain ⟨x4,x5⟩:=BX.out _ _ _ A1
 obtain ⟨⟨a1,a2,a3,a4⟩,f1,f2,f3,f4⟩:=A1.cells
 have H2:Hid (AskB w w.heap.size #[.slice c0 l0 d0,.slice c1 l1 d1,.slice c2 l2 d2,.slice c3 l3 d3,.iface 70 (.agg #[.slice ho hn hc,.slice go gn gc]),.int .i64 node] (wayI L ok T node (p.take 0)) 0 (W1.setCell ⟨w.heap.size+1,0,none⟩ (.int .i64 node))):=A1.setx node
 clear hv hp A1
 go_enter_defers Tryz.func139,Tryz.ntmps139
 go_upto_region 1 with fail
 rw [← hW1]
 clear hW1
 go_upto_region 4 with fail
 go_loopw [15] (fun s15 wr=>∃ k:Nat,k≤p.length∧s15=.int .i64 (k:Int)∧AskB w w.heap.size #[.slice c0 l0 d0,.slice c1 l1 d1,.slice c2 l2 d2,.slice c3 l3 d3,.iface 70 (.agg #[.slice ho hn hc,.slice go gn gc]),.int .i64 node] (wayI L ok T node (p.take k)) 0 wr) (fun s15 _=>p.length-(intOf s15).toNat)
 case atStart=>exact ⟨0,Nat.zero_le _,rfl,H2.out⟩
 case round=>
  clear H2 x4 x5 a1 a2 a3 a4 f1 f2 f3 f4
  obtain ⟨k,hk,rfl,hA⟩:=hrel
  obtain ⟨x4,x5⟩:=BX.out _ _ _ hA
  obtain ⟨⟨a1,a2,a3,a4⟩,f1,f2,f3,f4⟩:=hA.cells
  by_cases hlt:k<p.length
  ·obtain ⟨pb,off,rfl,hcl⟩:=HP.out wr k hlt hA.same
   have C:=CA.out wr (wayI L ok T node (p.take k)) p[k] hA.same
   have NX:Hid (∀ ww,Same0 wr ww→(ww.cell? ⟨w.heap.size+1,0,none⟩=some (.int .i64 (wayI L ok T node (p.take k)))∧ww.frozen? ⟨w.heap.size+1,0,none⟩=false)∧AskB w w.heap.size #[.slice c0 l0 d0,.slice c1 l1 d1,.slice c2 l2 d2,.slice c3 l3 d3,.iface 70 (.agg #[.slice ho hn hc,.slice go gn gc]),.int .i64 node] (wayI L ok T node (p.take (k+1))) 0 (ww.setCell ⟨w.heap.size+1,0,none⟩ (.int .i64 (argI L ok T (wayI L ok T node (p.take k)) p[k])))):=fun ww hs=>by
    rw [wayI_take hlt]
    exact ⟨⟨(hA.up hs).cells.1.1,(hA.up hs).cells.2.1⟩,(hA.up hs).setx _⟩
   have i1:(0:Int)≤(k:Int):=by omega
   have i2:(k:Int)<(p.length:Int):=by omega
   generalize argI L ok T (wayI L ok T node (p.take k)) p[k]=z at *
   generalize wayI L ok T node (p.take k)=y at *
   generalize p[k]=q at *
   clear hA CA CH HP BX
   go_wp2_with (first | (go_at_call 31;refine C.mono ?_;rintro e w2 ⟨rfl,k2⟩;obtain ⟨⟨m0,m1⟩,m2⟩:=NX.out w2 k2))
   go_roundw
   case rel=>first | exact ⟨k+1,by omega,by go_num,m2⟩ | ((repeat apply Exists.intro);exact ⟨⟨k+1,by omega,by go_num,m2⟩,rfl⟩)
   case measure=>simp [intOf];omega
  ·obtain rfl:k=p.length:=by omega
   rw [List.take_of_length_le (Nat.le_refl _)] at hA a1
   have C:=CH.out wr (wayI L ok T node p) hA.same
   have NX:Hid (∀ ww,Same0 wr ww→AskB w w.heap.size #[.slice c0 l0 d0,.slice c1 l1 d1,.slice c2 l2 d2,.slice c3 l3 d3,.iface 70 (.agg #[.slice ho hn hc,.slice go gn gc]),.int .i64 node] (wayI L ok T node p) 0 ww):=fun ww hs=>hA.up hs
   obtain ⟨y,hy⟩:∃ y,y=wayI L ok T node p:=⟨_,rfl⟩
   obtain ⟨z,hz⟩:∃ z,z=headI ok T (wayI L ok T node p):=⟨_,rfl⟩
   have HYZ:Hid (y=wayI L ok T node p∧z=headI ok T (wayI L ok T node p)):=⟨hy,hz⟩
   rw [← hz,← hy] at C
   rw [← hy] at NX a1
   clear hy hz
   clear hA CA CH HP BX
   go_upto_region 9 with (first | (go_at_call 29;refine C.mono ?_;rintro e w2 ⟨rfl,k2⟩;have n0:=NX.out w2 k2;obtain ⟨⟨b1,b2,b3,b4⟩,g1,g2,g3,g4⟩:=n0.cells;obtain ⟨⟨e1,e2,e3,e4⟩,h1,h2,h3,h4⟩:=(n0.sety z).cells))
   have n3:=(n0.sety z).setb
   obtain ⟨w3,hw3⟩:∃ w3,w3=(w2.setCell ⟨w.heap.size+1+1,0,none⟩ (.int .i64 z)).setCell ⟨w.heap.size+1+1+1,0,none⟩ (.bool false):=⟨_,rfl⟩
   rw [← hw3] at n3 ⊢
   clear hw3 n0 b1 b2 b3 b4 g1 g2 g3 g4 e1 e2 e3 e4 h1 h2 h3 h4 x4 x5 a1 a2 a3 a4 f1 f2 f3 f4 NX k2 C
   obtain ⟨⟨a1,a2,a3,a4⟩,f1,f2,f3,f4⟩:=n3.cells
   obtain ⟨⟨b1,b2,b3,b4⟩,g1,g2,g3,g4⟩:=(n3.setx y).cells
   obtain ⟨⟨c1', c2', c3', c4'⟩,i1,i2,i3,i4⟩:=((n3.setx y).sety z).cells
   obtain ⟨⟨e1,e2,e3,e4⟩,h1,h2,h3,h4⟩:=(((n3.setx y).sety z).setb).cells
   have nf:=(((n3.setx y).sety z).setb).sete
   have NF:Hid _:=nf
   clear nf n3
   go_region
   all_goals
    go_wp2_with fail
    refine leaves_cons (f:=169) (args:=#[.pointer (some ⟨w.heap.size+1,0,none⟩),.pointer (some ⟨w.heap.size+1+1,0,none⟩),.pointer (some ⟨w.heap.size+1+1+1,0,none⟩),.pointer (some ⟨w.heap.size+1+1+1+1,0,none⟩)]) (by simp) (by simp [go_sem]) ?_
    refine (cask_none _).mono ?_
    rintro e u' w'' ⟨rfl,rfl,rfl⟩
    have nn:=NF.out.up (Kept.drew (Kept.refl _ _))
    obtain ⟨⟨r1,r2,r3,r4⟩,_⟩:=nn.cells
    simp [Leaves,settle,results,Tryz.results139,go_sem,r1,r2,r3,r4]
    exact ⟨HYZ.out,nn.same⟩
end Go.Proofs.YtdhiiicppcgkbaaGreat
namespace Go.Proofs.YtdhiiicppcgkbaaGreat
set_option linter.unusedVariables false
abbrev I3:=Int × Int × Int
abbrev St9:=List I3 × List (List Int)
def setB:List I3→Nat→Int→List I3
 | [],_,_=>[]
 | x :: r,0,b=>(x.1,x.2.1,b) :: r
 | x :: r,c+1,b=>x :: setB r c b
theorem setB_length:∀ (I:List I3) (c:Nat) (b:Int),(setB I c b).length=I.length
 | [],_,_=>rfl
 | _ :: _,0,_=>rfl
 | _ :: r,c+1,b=>by simp [setB,setB_length r c b]
def layK {α:Type} (f:α→St9→St9):List (Int × α)→Nat→St9→St9
 | [],_,s=>s
 | x :: r,c,s=>layK f r (c+1) (f x.2 (setB s.1 c (s.1.length:Int),s.2))
theorem layK_snoc {α:Type} (f:α→St9→St9):∀ (l:List (Int × α)) (x:Int × α) (c:Nat) (s:St9),layK f (l ++ [x]) c s=f x.2 (setB (layK f l c s).1 (c+l.length) ((layK f l c s).1.length:Int),(layK f l c s).2)
 | [],x,c,s=>by simp [layK]
 | y :: r,x,c,s=>by
  rw [List.cons_append,layK,layK_snoc f r x (c+1),List.length_cons]
  simp only [layK]
  rw [show c+1+r.length=c+(r.length+1) by omega]
def headS (p:List Int) (ks:List Int) (s:St9):St9:=(s.1 ++ [(1,(s.2.length:Int),0)]++ks.map (fun k=>((2,k,0):I3)) ++ [(3,0,0)],s.2 ++ [p])
def layS:(n:Nat)→Tr n→St9→St9
 | 0,_,s=>s
 | n+1,(k,r,p,l),s=>
  if k=1 then (s.1 ++ [(4,r,0)],s.2)
  else if k=2 then layK (layS n) l (s.1.length+1) (headS p (l.map (fun x=>x.1)) s)
  else (s.1 ++ [(3,0,0)],s.2)
def insN:(n:Nat)→Tr n→Nat
 | 0,_=>0
 | n+1,(k,r,p,l)=>if k=2 then 3+l.length+sumN (l.map (fun x=>insN n x.2)) else 1
theorem layK_len {α:Type} {f:α→St9→St9} {g:α→Nat}:∀ (l:List (Int × α)) (c:Nat) (s:St9),(∀ x∈l,∀ s,(f x.2 s).1.length+(f x.2 s).2.length≤s.1.length+s.2.length+g x.2∧s.1.length≤(f x.2 s).1.length∧s.2.length≤(f x.2 s).2.length)→(layK f l c s).1.length+(layK f l c s).2.length≤s.1.length+s.2.length+sumN (l.map (fun x=>g x.2))∧s.1.length≤(layK f l c s).1.length∧s.2.length≤(layK f l c s).2.length
 | [],c,s,_=>by simp [layK,sumN]
 | x :: r,c,s,h=>by
  obtain ⟨a1,a2,a3⟩:=h x (List.mem_cons_self ..) (setB s.1 c (s.1.length:Int),s.2)
  obtain ⟨b1,b2,b3⟩:=layK_len (g:=g) r (c+1) (f x.2 (setB s.1 c (s.1.length:Int),s.2)) (fun y hy=>h y (List.mem_cons_of_mem _ hy))
  simp only [setB_length] at a1 a2 a3
  simp only [layK,List.map_cons,sumN]
  omega
theorem layS_eq {n:Nat} (k r:Int) (p:List Int) (l:List (Int × Tr n)) (s:St9):layS (n+1) (k,r,p,l) s=if k=1 then (s.1 ++ [(4,r,0)],s.2) else if k=2 then layK (layS n) l (s.1.length+1) (headS p (l.map (fun x=>x.1)) s) else (s.1 ++ [(3,0,0)],s.2):=rfl
theorem insN_eq {n:Nat} (k r:Int) (p:List Int) (l:List (Int × Tr n)):insN (n+1) (k,r,p,l)=if k=2 then 3+l.length+sumN (l.map (fun x=>insN n x.2)) else 1:=rfl
theorem layS_len:∀ (n:Nat) (t:Tr n) (s:St9),(layS n t s).1.length+(layS n t s).2.length≤s.1.length+s.2.length+insN n t∧s.1.length≤(layS n t s).1.length∧s.2.length≤(layS n t s).2.length
 | 0,_,s=>by simp [layS,insN]
 | n+1,(k,r,p,l),s=>by
  rw [layS_eq,insN_eq]
  by_cases h1:k=1
  ·rw [if_pos h1,if_neg (by omega)];simp;omega
  ·rw [if_neg h1]
   by_cases h2:k=2
   ·rw [if_pos h2,if_pos h2]
    obtain ⟨a,b,c⟩:=layK_len (f:=layS n) (g:=insN n) l (s.1.length+1) (headS p (l.map (fun x=>x.1)) s) (fun x _ s=>layS_len n x.2 s)
    have e1:(headS p (l.map (fun x=>x.1)) s).1.length=s.1.length+1+l.length+1:=by simp [headS];omega
    have e2:(headS p (l.map (fun x=>x.1)) s).2.length=s.2.length+1:=by simp [headS]
    rw [e1,e2] at a
    rw [e1] at b
    rw [e2] at c
    omega
   ·rw [if_neg h2,if_neg h2];simp;omega
theorem layS_leaf {n:Nat} {k r:Int} {p:List Int} {l:List (Int × Tr n)} (h:k=1) (s:St9):layS (n+1) (k,r,p,l) s=(s.1 ++ [(4,r,0)],s.2):=by
 rw [layS_eq,if_pos h]
theorem layS_branch {n:Nat} {k r:Int} {p:List Int} {l:List (Int × Tr n)} (h:k=2) (s:St9):layS (n+1) (k,r,p,l) s=layK (layS n) l (s.1.length+1) (headS p (l.map (fun x=>x.1)) s):=by
 rw [layS_eq,if_neg (by omega),if_pos h]
theorem layS_fail {n:Nat} {k r:Int} {p:List Int} {l:List (Int × Tr n)} (h1:¬ k=1) (h2:¬ k=2) (s:St9):layS (n+1) (k,r,p,l) s=(s.1 ++ [(3,0,0)],s.2):=by
 rw [layS_eq,if_neg h1,if_neg h2]
def flat3 (I:List I3):List Int:=I.flatMap (fun x=>[x.1,x.2.1,x.2.2])
theorem flat3_append (a b:List I3):flat3 (a++b)=flat3 a++flat3 b:=by simp [flat3]
theorem flat3_at:∀ (I:List I3) (i:Nat) (h:i<I.length),(flat3 I)[i * 3]? = some I[i].1∧(flat3 I)[i * 3+1]? = some I[i].2.1∧(flat3 I)[i * 3+2]? = some I[i].2.2
 | x :: r,0,h=>⟨rfl,rfl,rfl⟩
 | x :: r,i+1,h=>by
  have e:flat3 (x :: r)=x.1 :: x.2.1 :: x.2.2 :: flat3 r:=rfl
  have:=flat3_at r i (by simpa using h)
  rw [e,show (i+1) * 3=i * 3+1+1+1 by omega,show i * 3+1+1+1+1=(i * 3+1)+1+1+1 by omega,show i * 3+1+1+1+2=(i * 3+2)+1+1+1 by omega]
  simpa using this
theorem flat3_setB:∀ (I:List I3) (c:Nat) (b:Int),flat3 (setB I c b)=(flat3 I).set (c * 3+2) b
 | [],_,_=>by simp [setB,flat3]
 | x :: r,0,b=>rfl
 | x :: r,c+1,b=>by
  have e:∀ (x:I3) r,flat3 (x :: r)=x.1 :: x.2.1 :: x.2.2 :: flat3 r:=fun _ _=>rfl
  rw [setB,e,e,flat3_setB r c b,show (c+1) * 3+2=(c * 3+2)+1+1+1 by omega]
  rfl
end Go.Proofs.YtdhiiicppcgkbaaGreat
