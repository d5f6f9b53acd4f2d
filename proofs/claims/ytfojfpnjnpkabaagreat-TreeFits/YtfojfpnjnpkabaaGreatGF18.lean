import Derived.Test.YtfojfpnjnpkabaaGreatGF16
import Derived.Test.YtfojfpnjnpkabaaGreatGF17
import Derived.Test.YtfojfpnjnpkabaaGreatGF05
namespace Go.Proofs.YtfojfpnjnpkabaaGreat
set_option maxRecDepth 100000
set_option linter.unusedVariables false
open Go.RowKit
attribute [local go_sem ↓] Go.wp_at_zero Go.wp_at_succ
def rowsOf (R:List Ru) (l:List Int):List Rw:=l.map (fun i=>(i,(R.getD i.toNat ([],[])).1,[0]))
theorem ofF_mem {s:Int} {i:Int}:∀ {R:List Ru} {k:Nat},i∈ofF s k R→∃ j,∃ h:j<R.length,i=((k+j:Nat):Int)∧R[j].1.head? = some s
 | [],k,h=>by simp [ofF] at h
 | x :: r,k,h=>by
  rw [ofF] at h
  rcases List.mem_append.1 h with q | q
  ·split at q
   ·simp at q
    exact ⟨0,by simp,by simpa using q,by assumption⟩
   ·simp at q
  ·obtain ⟨j,hj,e1,e2⟩:=ofF_mem q
   exact ⟨j+1,by simp;omega,by rw [e1];congr 1;omega,by simpa using e2⟩
def rootP (L:List Sym) (s:Nat):List (List Int):=kidP L [[]] 0 s
def rootR (L:List Sym) (R:List Ru) (s:Nat):List Rw:=(rowsOf R (ofF (s:Int) 0 R)).map (kidX L 0)
theorem rows_fact {L:List Sym} {R:List Ru} (hok:∀ x∈R,checkE L x.1=0∧checkE L x.2=0) {s:Nat} {x:Rw} (hx:x∈rowsOf R (ofF (s:Int) 0 R)):∃ j,∃ h:j<R.length,x=((j:Int),R[j].1,[0])∧checkE L R[j].1=0∧0<R[j].1.length∧numR x 0=(s:Int):=by
 obtain ⟨i,hi,rfl⟩:=List.mem_map.1 hx
 obtain ⟨j,hj,e1,e2⟩:=ofF_mem hi
 have hz:=hok _ (List.getElem_mem hj)
 have hp:=(ok_len hz).1.1
 have e3:R.getD i.toNat ([],[])=R[j]:=by rw [e1];simp [List.getD,hj]
 refine ⟨j,hj,by rw [e3,e1];simp,hz.1,hp,?_⟩
 rw [e3]
 unfold numR
 show R[j].1.getD 0 (-1)=_
 rw [getD_lt hp]
 exact (head_at hp _).1 e2
theorem root_ok {L:List Sym} (ha:Ars L) {R:List Ru} (hle:R.length≤100) (hok:∀ x∈R,checkE L x.1=0∧checkE L x.2=0) {s:Nat} (hs:s<L.length):NdOk L 2001 (rootP L s) (rootR L R s):=by
 have hP:(rootP L s).length=arN L (s:Int):=by simp [rootP,kidP,repl]
 have h6:=arN_le ha (s:Int)
 refine ⟨by omega,?_,by omega,?_,?_⟩
 ·simp only [rootR,rowsOf,List.length_map]
  exact Nat.le_trans (ofF_len _ _ _) hle
 ·intro p hp
  simp only [rootP,kidP,repl,List.take_zero,List.nil_append,List.drop_succ_cons,List.drop_nil,List.append_nil] at hp
  obtain ⟨i,_,rfl⟩:=List.mem_map.1 hp
  simp
 ·intro y hy
  obtain ⟨x,hx,rfl⟩:=List.mem_map.1 hy
  obtain ⟨j,hj,rfl,h0,hp,hn⟩:=rows_fact hok hx
  have hT:=checkE_zero.1 h0
  obtain ⟨a1,a2⟩:=args_wt hT.2.2 hp
  have e1:(kidX L 0 ((j:Int),R[j].1,[0])).2.2=argsN L R[j].1 0:=by simp [kidX,repl]
  have e2:numR ((j:Int),R[j].1,[0]) 0=R[j].1[0]:=numR_eq (x:=((j:Int),R[j].1,[0])) (c:=0) (by simp) hp
  rw [e2] at hn
  refine ⟨h0,?_,?_,?_⟩
  ·rw [e1,argsN_eq hp,starts_length,hn,hP]
  ·rw [e1];exact a2
  ·rw [e1]
   have:=endN_zero hT.2.2
   show wtL L R[j].1 (argsN L R[j].1 0)<2001
   omega
set_option maxHeartbeats 16000000 in
theorem rootOf_any {w:World} {b bs bt:Nat} {L:List Sym} {R:List Ru} {lv:Value} {vs:List Value} (hg:Sg w.heap.size w bt L) (h:StAt w b bs L R lv vs) {s:Nat} (hs:s<L.length) :
  Calls Tryz.prog 34 #[.pointer (some ⟨bt,0,none⟩),.pointer (some ⟨b,0,none⟩),.int .i64 (s:Int)] w fun e w' => ∃ po pc ro rc,e=.returned (.agg #[.pointer (some ⟨bt,0,none⟩),.slice po (rootP L s).length pc,.slice ro (rootR L R s).length rc])∧NdIn w' L 2001 bt po pc (rootP L s) ro (rootR L R s)∧Same0 w w' := by
 have hle:=h.le
 have hok:=h.ok
 have hol:=ofF_len (s:Int) R 0
 obtain ⟨W3,hW3⟩:∃ W3,W3=((w.alloc zeroNd).alloc (.cells #[] 3)).alloc (.cells #[.slice (some ⟨w.heap.size+1,0,none⟩) 0 0] 32):=⟨_,rfl⟩
 have KW:Same0 w W3:=by rw [hW3];exact (((Kept.refl _ w).alloc _).alloc _).alloc _
 have ez:W3.heap.size=w.heap.size+1+1+1:=by rw [hW3];simp
 have RS:Hid (∀ ww,Same0 W3 ww→ww.heap[w.heap.size]? = some (.cells #[.pointer none,.slice none 0 0,.slice none 0 0] 91 (0,0))):=fun ww hk=>hk.at0 (by
  have k2:Same0 (w.alloc zeroNd) W3:=by rw [hW3];exact ((Kept.refl _ _).alloc _).alloc _
  exact k2.at0 (heap_alloc_new w _))
 have PS:Hid (∀ ww,Same0 W3 ww→PsAt ww (some ⟨w.heap.size+1+1,0,none⟩) [[]]):=fun ww hk=>PsAt.same (by
  have h1:W3.heap[w.heap.size+1+1]? = some (.cells #[.slice (some ⟨w.heap.size+1,0,none⟩) 0 0] 32 (0,0)):=by
   have:=heap_al_al (w.alloc zeroNd) (.cells #[] 3) (.cells #[.slice (some ⟨w.heap.size+1,0,none⟩) 0 0] 32)
   rw [World.size_alloc] at this
   rw [hW3];exact this
  have h2:W3.heap[w.heap.size+1]? = some (.cells #[] 3 (0,0)):=by
   have k2:Same0 ((w.alloc zeroNd).alloc (.cells #[] 3)) W3:=by rw [hW3];exact (Kept.refl _ _).alloc _
   exact k2.at0 (heap_al_al _ _ _)
  refine .inr ⟨_,0,rfl,⟨_,h1⟩,fun i hi=>?_⟩
  obtain rfl:i=0:=by simp at hi;omega
  exact ⟨some ⟨w.heap.size+1,0,none⟩,0,cellAt h1 0,⟨.inl rfl,Nat.le_refl _,(fun e=>by cases e),by simp⟩,fun a e=>by cases e;exact ⟨_,h2⟩⟩) hk
 have HST:Hid (∀ ww,Same0 w ww→StAt ww b bs L R lv vs):=fun ww hk=>h.same hk
 have HSG:Hid (∀ ww,Same0 w ww→Sg ww.heap.size ww bt L):=fun ww hk=>sg_up (hg.same hk) hk.size
 have NB:Hid (NdOk L 2001 (rootP L s) (rootR L R s)):=root_ok hg.2 hle hok hs
 have HOF:Hid (∀ ww,Same0 W3 ww→Calls Tryz.prog 19 #[.pointer (some ⟨b,0,none⟩),.int .i64 (s:Int)] ww fun e w' => ∃ oo oc,e=.returned (.slice oo (ofF (s:Int) 0 R).length oc)∧Hid (ArgT w' oo (ofF (s:Int) 0 R) oc)∧Same0 ww w'):=fun ww hk=>(sof_any (HST.out ww (KW.trans' hk)) (s:Int)).mono (fun e w' ⟨v,e1,e2,e3⟩=>by
  obtain ⟨oo,oc,rfl,i1,_⟩:=e2.arg (by omega)
  exact ⟨oo,oc,e1,i1,e3⟩)
 have HFA:Hid (∀ x∈rowsOf R (ofF (s:Int) 0 R),∃ j,∃ h:j<R.length,x=((j:Int),R[j].1,[0])∧checkE L R[j].1=0∧0<R[j].1.length∧numR x 0=(s:Int)):=fun x hx=>rows_fact hok hx
 clear h hg
 have K4:Same0 W3 (W3.alloc (.cells #[.pointer (some ⟨bt,0,none⟩),.slice (some ⟨w.heap.size+1+1,0,none⟩) 1 1,.slice none 0 0] 91)):=(Kept.refl _ _).alloc _
 have C1:=HOF.out _ K4
 generalize hof:ofF (s:Int) 0 R=O at *
 go_enter Tryz.func34,Tryz.ntmps34
 go_upto_region 2 with fail
 rw [← hW3]
 have N0:Hid ((W3.alloc (.cells #[.pointer (some ⟨bt,0,none⟩),.slice (some ⟨w.heap.size+1+1,0,none⟩) 1 1,.slice none 0 0] 91)).heap[W3.heap.size]? = some (.cells #[.pointer (some ⟨bt,0,none⟩),.slice (some ⟨w.heap.size+1+1,0,none⟩) 1 1,.slice none 0 0] 91 (0,0))):=heap_alloc_new W3 _
 obtain ⟨kb,hkb⟩:∃ kb,kb=W3.heap.size:=⟨_,rfl⟩
 have HKB:Hid (kb=W3.heap.size):=hkb
 have ez3:w.heap.size+1+1+1=kb:=by rw [hkb,ez]
 rw [ez3]
 rw [← hkb] at N0
 have hzk:(W3.alloc (.cells #[.pointer (some ⟨bt,0,none⟩),.slice (some ⟨w.heap.size+1+1,0,none⟩) 1 1,.slice none 0 0] 91)).heap.size=kb+1:=by rw [hkb];simp
 have HZK:Hid (kb+1=(W3.alloc (.cells #[.pointer (some ⟨bt,0,none⟩),.slice (some ⟨w.heap.size+1+1,0,none⟩) 1 1,.slice none 0 0] 91)).heap.size):=hzk.symm
 clear hW3 hkb ez hzk
 go_upto_region 3 with (first | (go_at_call 19;refine C1.mono ?_;rintro e w5 ⟨oo,oc,rfl,hoi,k5⟩))
 have HOE:Hid (ofF (s:Int) 0 R=O):=hof
 have K5:Same0 W3 w5:=K4.trans' k5
 have N5:Hid (w5.heap[kb]? = some (.cells #[.pointer (some ⟨bt,0,none⟩),.slice (some ⟨w.heap.size+1+1,0,none⟩) 1 1,.slice none 0 0] 91 (0,0))):=k5.at0 N0.out
 have hkb5:kb+1≤w5.heap.size:=by rw [HZK.out];exact k5.size
 have HOI:Hid (∀ ww,Same0 w5 ww→ArgT ww oo O oc):=fun ww hk=>hoi.out.same hk
 clear hof N0 C1 HOF hoi K4 k5 hok
 go_loopw [20] (fun i wr=>∃ (j:Nat) (lv:Value) (us:List Value),j≤O.length∧i=.int .i64 (j:Int)∧Hid (wr.heap[kb]? = some (.cells #[.pointer (some ⟨bt,0,none⟩),.slice (some ⟨w.heap.size+1+1,0,none⟩) 1 1,lv] 91 (0,0)))∧Hid (wr.ownsRow (kb+1) 133 3 lv j us)∧Hid (WCells wr us (rowsOf R (O.take j)))∧Same0 W3 wr∧Hid (ArgT wr oo O oc)) (fun i _=>O.length-(intOf i).toNat)
 case atStart=>exact ⟨0,.slice none 0 0,[],Nat.zero_le _,rfl,N5,World.ownsRow_nil _ _ _ _,by simpa [Hid,rowsOf] using WCells.nil _,K5,HOI.out _ (Kept.refl _ _)⟩
 case round=>
  clear K5 N5 hkb5 HOI
  obtain ⟨j,lv,us,hj,rfl,hN,hr,hus,hw,hoi⟩:=hrel
  obtain ⟨lo,lc,rfl⟩:=row_shape hr.out
  by_cases hlt:j<O.length
  ·obtain ⟨ob,ooff,rfl,hob,hoc⟩:=hoi.out.1.at'.get hlt
   have hmem:(O[j],(R.getD O[j].toNat ([],[])).1,[0])∈rowsOf R O:=List.mem_map.2 ⟨O[j],List.getElem_mem hlt,rfl⟩
   obtain ⟨q,hq,hqe,hq0,hqp,hqn⟩:=HFA.out _ hmem
   have hOq:O[j]=(q:Int):=congrArg Prod.fst hqe
   have hkr:kb<wr.heap.size:=lt_of_at hN.out
   have hT:=checkE_zero.1 hq0
   have CA:=sat_yes (HST.out wr (KW.trans' hw)) q hq
   have CK:Hid (∀ ww g c', Same0 wr ww→TmAt ww g c' R[q].1→Calls Tryz.prog 43 #[.pointer (some ⟨bt,0,none⟩),.slice (some ⟨g,0,none⟩) R[q].1.length c'] ww fun e w' => e=.returned (.int .i64 0)∧Same0 ww w'):=fun ww g c' hk ht=>by
    have:=check_any (cap:=c') (HSG.out ww ((KW.trans' hw).trans' hk)) (TmAt.arg ht hT.1).at' (by unfold maxLen;omega)
    rw [hq0] at this
    exact this
   have i1:(0:Int)≤(j:Int):=by omega
   have i2:(j:Int)<(O.length:Int):=by omega
   rw [hOq] at hoc
   have CAH:Hid (Calls Tryz.prog 20 #[.pointer (some ⟨b,0,none⟩),.int .i64 (q:Int)] wr fun e w' => ∃ g c g' c', e=.returned (.tuple #[.agg #[.slice (some ⟨g,0,none⟩) R[q].1.length c,.slice (some ⟨g', 0,none⟩) R[q].2.length c'],.int .i64 0])∧Hid (TmAt w' g c R[q].1)∧Same0 wr w'):=CA.mono (fun e w' ⟨v,e1,⟨g,c,g', c', e2,t1,t2,_⟩,k⟩=>⟨g,c,g', c', by rw [e1,e2],t1,k⟩)
   have CA2:=CAH.out
   have hBX:Hid (∀ ww,Same0 wr ww→ww.cell? ⟨kb,2,none⟩=some (.slice lo j lc)):=fun ww hk=>cellAt (hk.at0 hN.out) 2
   have HRW:Hid (∀ ww,Same0 wr ww→ww.ownsRow (kb+1) 133 3 (.slice lo j lc) j us):=fun ww hk=>hk.row hr.out (fun _ _ f=>f)
   have hzz:Hid (∀ ww,Same0 wr ww→kb+1≤ww.heap.size):=fun ww hk=>by have:=hk.size;omega
   have hj1000:j≤1000:=by omega
   have FIN:Hid (∀ w7 g c q0 gg cap w11,Same0 wr w7→TmAt w7 g c R[q].1→ArgT w7 (some ⟨q0,0,none⟩) (ofN [0]) 1→w11.ownsRow (kb+1) 133 3 (.slice (some ⟨gg,0,none⟩) (j+1) cap) (j+1) (us ++ [.int .i64 (q:Int),.slice (some ⟨g,0,none⟩) R[q].1.length c,.slice (some ⟨q0,0,none⟩) 1 1])→Kept (fun k=>(Value.slice lo j lc).ownBlock=some k) w7 w11→(w11.cell? ⟨kb,2,none⟩=some (.slice lo j lc)∧w11.frozen? ⟨kb,2,none⟩=false)∧Hid (∃ us', Hid ((w11.setCell ⟨kb,2,none⟩ (.slice (some ⟨gg,0,none⟩) (j+1) cap)).heap[kb]? = some (.cells #[.pointer (some ⟨bt,0,none⟩),.slice (some ⟨w.heap.size+1+1,0,none⟩) 1 1,.slice (some ⟨gg,0,none⟩) (j+1) cap] 91 (0,0)))∧Hid ((w11.setCell ⟨kb,2,none⟩ (.slice (some ⟨gg,0,none⟩) (j+1) cap)).ownsRow (kb+1) 133 3 (.slice (some ⟨gg,0,none⟩) (j+1) cap) (j+1) us')∧Hid (WCells (w11.setCell ⟨kb,2,none⟩ (.slice (some ⟨gg,0,none⟩) (j+1) cap)) us' (rowsOf R (O.take (j+1))))∧Same0 W3 (w11.setCell ⟨kb,2,none⟩ (.slice (some ⟨gg,0,none⟩) (j+1) cap))∧Hid (ArgT (w11.setCell ⟨kb,2,none⟩ (.slice (some ⟨gg,0,none⟩) (j+1) cap)) (some ⟨ob,ooff,none⟩) O oc))):=by
    intro w7 g c q0 gg cap w11 k7 t7 a0 r11 k11
    have hr7:=k7.row hr.out (fun _ _ f=>f)
    have n7:=k7.at0 hN.out
    have nk:¬ (Value.slice lo j lc).ownBlock=some kb:=fun e=>by
     obtain ⟨cu,h5⟩:=own_blk hr7 e
     rw [n7] at h5;cases h5
    have n11:=k11.at n7 nk
    have ks:Kept (fun k=>k=kb) w11 (w11.setCell ⟨kb,2,none⟩ (.slice (some ⟨gg,0,none⟩) (j+1) cap)):=Kept.setCell (p:=⟨kb,2,none⟩) (Kept.refl (fun k=>k=kb) w11) (fun _=>rfl) _
    obtain ⟨xo,xc,e1,a1,_⟩:=Row.arg t7 (by omega)
    simp only [Value.slice.injEq] at e1
    obtain ⟨rfl,_,rfl⟩:=e1
    refine ⟨⟨cellAt n11 2,frozenAt n11 2⟩,us ++ [.int .i64 (q:Int),.slice (some ⟨g,0,none⟩) R[q].1.length c,.slice (some ⟨q0,0,none⟩) 1 1],setAt n11 2 _,?_,?_,?_,?_⟩
    ·exact ks.row r11 (fun k e f=>by
      obtain ⟨cu,h5⟩:=own_blk r11 e
      subst f
      rw [n11] at h5;cases h5)
    ·show WCells _ _ _
     have e5:rowsOf R (O.take (j+1))=rowsOf R (O.take j) ++ [((q:Int),R[q].1,[0])]:=by
      rw [List.take_add_one,List.getElem?_eq_getElem hlt]
      unfold rowsOf
      rw [List.map_append]
      congr 1
      rw [← hqe];rfl
     rw [e5]
     have:=(hus.out.same k7).snoc (x:=((q:Int),R[q].1,[0])) a1 a0
     exact (this.kept k11 (row_ty hr7)).kept ks (fun k e cur h5=>by subst e;rw [n11] at h5;cases h5)
    ·refine Kept.trans (Kept.trans (hw.trans' k7) k11 (fun i hi e=>?_)) ks (fun i hi e=>by have:=HKB.out;omega)
     have:=(hr7.lt i e).1
     have:=HKB.out
     omega
    ·exact (((hoi.out.same k7).kept k11 (row_ty hr7)).kept ks (fun k e cur h5=>by subst e;rw [n11] at h5;cases h5))
   have TA:Hid (∀ w8:World,ArgT (w8.alloc (.cells #[.int .i64 0] 3)) (some ⟨w8.heap.size,0,none⟩) (ofN [0]) 1):=fun w8=>⟨ints_arg w8 [0] 3 (by simp) rfl,fun a e=>by cases e;exact ⟨_,heap_alloc_new w8 _⟩⟩
   have XB:Hid (∀ w6 w8:World,∀ x y:Value,Same0 (w6.alloc (.cells #[x,y] 63)) w8→w8.cell? ⟨w6.heap.size,0,none⟩=some x):=fun w6 w8 x y hk=>cellAt (hk.at0 (heap_alloc_new w6 _)) 0
   clear CA CAH hN hr hus hoi hmem HFA hqe hq0 hqp hqn hOq hT hkr hw NB HOE PS RS HSG HST
   go_wp2_with (first
    | (go_at_call 20;refine CA2.mono ?_;rintro e w6 ⟨g,c', g', c'', rfl,ht,k6⟩;have ka:Same0 wr (w6.alloc (.cells #[.slice (some ⟨g,0,none⟩) R[q].1.length c', .slice (some ⟨g', 0,none⟩) R[q].2.length c''] 63)):=Kept.alloc k6 _;have kx:Same0 w6 (w6.alloc (.cells #[.slice (some ⟨g,0,none⟩) R[q].1.length c', .slice (some ⟨g', 0,none⟩) R[q].2.length c''] 63)):=(Kept.refl _ _).alloc _;have CK2:=CK.out _ g c' ka (ht.out.same kx))
    | (go_at_call 43;refine CK2.mono ?_;rintro e w8 ⟨rfl,k8⟩;have k18:=ka.trans' k8;have x0:=XB.out _ _ _ _ k8;have y0:=hBX.out _ k18;have t8:=(ht.out.same kx).same k8;have k7:Same0 wr (w8.alloc (.cells #[.int .i64 0] 3)):=Kept.alloc k18 _;have hz7:=hzz.out _ k7)
    | (at_builtin;refine wpList_rw (w0:=w8.alloc (.cells #[.int .i64 0] 3)) rfl _ _ rfl (kb+1) j us (.slice lo j lc) rfl ((Kept.refl _ _).alloc _) (HRW.out _ k7) (.int .i64 (q:Int)) (.slice (some ⟨g,0,none⟩) R[q].1.length c') (.slice (some ⟨w8.heap.size,0,none⟩) 1 1) (w8.heap.size+1) rfl (heap_al_al _ _ _) rfl rfl rfl hz7 hj1000 ?_;intro gg cap w11 r11 k11;obtain ⟨⟨y1,y2⟩,FF⟩:=FIN.out _ g c' w8.heap.size gg cap w11 k7 (t8.same ((Kept.refl _ _).alloc _)) (TA.out w8) r11 k11))
   obtain ⟨us', z1,z2,z3,z4,z5⟩:=FF.out
   exact ⟨⟨j+1,_,us', by omega,by go_num,z1,z2,z3,z4,z5⟩,by simp [intOf];omega⟩
  ·obtain rfl:j=O.length:=by omega
   have hN' := hN.out
   have rs:=RS.out wr hw
   have n0:=cellAt hN' 0
   have n1:=cellAt hN' 1
   have n2:=cellAt hN' 2
   simp only [List.getElem?_toArray,List.getElem?_cons_zero,List.getElem?_cons_succ] at n0 n1 n2
   have hus' := hus.out
   rw [List.take_length] at hus'
   obtain ⟨ro,rc,e1,r1,r2, -⟩:=row_rows hr.out hus'
   have hol2:(rowsOf R O).length=O.length:=by simp [rowsOf]
   rw [hol2] at e1
   have KI:KidIn wr L bt (some ⟨w.heap.size+1+1,0,none⟩) 1 [[]] 0 s ro (rowsOf R O):=⟨HSG.out wr (KW.trans' hw),PS.out wr hw,(fun e=>by cases e),Nat.le_refl _,by simp,hs,r1,by omega,by simp,by simp,fun x hx=>by
    obtain ⟨q,hq,rfl,h0,hp,hn⟩:=HFA.out x hx
    exact ⟨h0,rfl,fun p hp' => by simp at hp'; subst hp'; exact hp,hn⟩⟩
   have CKD:=kid_any KI (no:=ro) (nl:=O.length) (nc:=rc) (hcap:=rc)
   simp only [Value.slice.injEq] at e1
   obtain ⟨rfl, -,rfl⟩:=e1
   rw [hol2] at CKD
   have RC:Hid (∀ ww,Same0 W3 ww→(ww.cell? ⟨w.heap.size,0,none⟩=some (.pointer none)∧ww.cell? ⟨w.heap.size,1,none⟩=some (.slice none 0 0)∧ww.cell? ⟨w.heap.size,2,none⟩=some (.slice none 0 0))∧ww.frozen? ⟨w.heap.size,0,none⟩=false∧ww.frozen? ⟨w.heap.size,1,none⟩=false∧ww.frozen? ⟨w.heap.size,2,none⟩=false):=fun ww hk=>by
    have rs:=RS.out ww hk
    exact ⟨⟨cellAt rs 0,cellAt rs 1,cellAt rs 2⟩,frozenAt rs 0,frozenAt rs 1,frozenAt rs 2⟩
   have FIN:Hid (∀ w9 po pc xo xc,Same0 wr w9→PsAt w9 po (kidP L [[]] 0 s)→(po=none→pc=0)→(kidP L [[]] 0 s).length≤pc→RwAt w9 xo ((rowsOf R O).map (kidX L 0))→((((w9.setCell ⟨w.heap.size,0,none⟩ (.pointer (some ⟨bt,0,none⟩))).setCell ⟨w.heap.size,1,none⟩ (.slice po (kidP L [[]] 0 s).length pc)).setCell ⟨w.heap.size,2,none⟩ (.slice xo O.length xc)).cell? ⟨w.heap.size,0,none⟩=some (.pointer (some ⟨bt,0,none⟩))∧(((w9.setCell ⟨w.heap.size,0,none⟩ (.pointer (some ⟨bt,0,none⟩))).setCell ⟨w.heap.size,1,none⟩ (.slice po (kidP L [[]] 0 s).length pc)).setCell ⟨w.heap.size,2,none⟩ (.slice xo O.length xc)).cell? ⟨w.heap.size,1,none⟩=some (.slice po (kidP L [[]] 0 s).length pc)∧(((w9.setCell ⟨w.heap.size,0,none⟩ (.pointer (some ⟨bt,0,none⟩))).setCell ⟨w.heap.size,1,none⟩ (.slice po (kidP L [[]] 0 s).length pc)).setCell ⟨w.heap.size,2,none⟩ (.slice xo O.length xc)).cell? ⟨w.heap.size,2,none⟩=some (.slice xo O.length xc))∧∃ po' pc' ro' rc', Ending.returned (Value.agg #[.pointer (some ⟨bt,0,none⟩),.slice po (kidP L [[]] 0 s).length pc,.slice xo O.length xc])=.returned (.agg #[.pointer (some ⟨bt,0,none⟩),.slice po' (rootP L s).length pc', .slice ro' (rootR L R s).length rc'])∧NdIn (((w9.setCell ⟨w.heap.size,0,none⟩ (.pointer (some ⟨bt,0,none⟩))).setCell ⟨w.heap.size,1,none⟩ (.slice po (kidP L [[]] 0 s).length pc)).setCell ⟨w.heap.size,2,none⟩ (.slice xo O.length xc)) L 2001 bt po' pc' (rootP L s) ro' (rootR L R s)∧Same0 w (((w9.setCell ⟨w.heap.size,0,none⟩ (.pointer (some ⟨bt,0,none⟩))).setCell ⟨w.heap.size,1,none⟩ (.slice po (kidP L [[]] 0 s).length pc)).setCell ⟨w.heap.size,2,none⟩ (.slice xo O.length xc))):=by
    intro w9 po pc xo xc k9 p1 p2 p3 p4
    have rs9:=RS.out w9 (hw.trans' k9)
    have s3:=setAt (setAt (setAt rs9 0 (.pointer (some ⟨bt,0,none⟩))) 1 (.slice po (kidP L [[]] 0 s).length pc)) 2 (.slice xo O.length xc)
    have k1:=Kept.setCell (p:=⟨w.heap.size,0,none⟩) (Kept.refl (fun q=>q=w.heap.size) w9) (fun _=>rfl) (.pointer (some ⟨bt,0,none⟩))
    have k2:=Kept.setCell (p:=⟨w.heap.size,1,none⟩) k1 (fun _=>rfl) (.slice po (kidP L [[]] 0 s).length pc)
    have kk:=Kept.setCell (p:=⟨w.heap.size,2,none⟩) k2 (fun _=>rfl) (.slice xo O.length xc)
    have kS:=Kept.trans ((KW.trans' hw).trans' k9) kk (fun i hi e=>by omega)
    have nb:∀ q,q=w.heap.size→NdB w9 q:=fun q e=>by subst e;exact ⟨_,rs9⟩
    refine ⟨⟨cellAt s3 0,cellAt s3 1,cellAt s3 2⟩,po,pc,xo,xc,?_,⟨HSG.out _ kS,p1.keptN kk nb,p2,p3,?_,NB.out⟩,kS⟩
    ·have:(rootR L R s).length=O.length:=by unfold rootR;rw [HOE.out,List.length_map,hol2]
     rw [this];rfl
    ·have:rootR L R s=(rowsOf R O).map (kidX L 0):=by unfold rootR;rw [HOE.out]
     rw [this];exact p4.keptN kk nb
   have CKH:Hid (Calls Tryz.prog 62 #[.agg #[.pointer (some ⟨bt,0,none⟩),.slice (some ⟨w.heap.size+1+1,0,none⟩) 1 1,.slice lo O.length lc],.int .i64 0,.int .i64 (s:Int),.slice lo O.length lc] wr fun e w' => ∃ po pc xo xc,e=.returned (.agg #[.pointer (some ⟨bt,0,none⟩),.slice po (kidP L [[]] 0 s).length pc,.slice xo O.length xc])∧Hid (PsAt w' po (kidP L [[]] 0 s)∧(po=none→pc=0)∧(kidP L [[]] 0 s).length≤pc∧RwAt w' xo ((rowsOf R O).map (kidX L 0)))∧Same0 wr w'):=CKD.mono (fun e w' ⟨po,pc,xo,xc,q1,q2,q3,q4,q5,q6,q7⟩=>⟨po,pc,xo,xc,by rw [q1,hol2],⟨q2,q3,q4,q5⟩,q7⟩)
   have CK3:=CKH.out
   clear hN hr hus hN' rs hus' r1 r2 KI CKD CKH hol2 hoi HFA NB HOE PS RS HSG HST
   go_wp2_with (first | (go_at_call 62;refine CK3.mono ?_;rintro e w9 ⟨po,pc,xo,xc,rfl,hq,k9⟩;obtain ⟨⟨q0,q1,q2⟩,f0,f1,f2⟩:=RC.out w9 (hw.trans' k9)))
   obtain ⟨p1,p2,p3,p4⟩:=hq.out
   obtain ⟨⟨g0,g1,g2⟩,FF⟩:=FIN.out w9 po pc xo xc k9 p1 p2 p3 p4
   exact bodyPost_ret (v:=.agg #[.pointer (some ⟨bt,0,none⟩),.slice po (kidP L [[]] 0 s).length pc,.slice xo O.length xc]) (by simp [results,Tryz.results34,go_sem,g0,g1,g2]) rfl FF
set_option maxHeartbeats 1000000 in
theorem tdef_any {n b:Nat} {w:World} {L:List Sym} (h:Sg n w b L) (x:Int) :
  Calls Tryz.prog 31 #[.pointer (some ⟨b,0,none⟩),.int .i64 x] w fun e w' => e=.returned (.bool (defB L x))∧Same0 w w' := by
 by_cases hx:x<0∨(L.length:Int)≤x
 ·have H1:Hid (defB L x=false):=defB_no hx
  have c:=sg_at_no h hx
  clear h
  go_enter Tryz.func31,Tryz.ntmps31
  go_wp2_with (first | (go_at_call 61;refine c.mono ?_;rintro e w' ⟨rfl,hk⟩))
  go_ret
  exact ⟨by rw [H1.out];rfl,Kept.alloc hk _⟩
 ·obtain ⟨i,rfl⟩:∃ i:Nat,x=(i:Int):=⟨x.toNat,by omega⟩
  have hi:i<L.length:=by omega
  have H1:Hid (defB L (i:Int)=L[i].df):=defB_at hi
  have c:=sg_at_yes h hi
  clear h
  go_enter Tryz.func31,Tryz.ntmps31
  go_wp2_with (first | (go_at_call 61;refine c.mono ?_;rintro e w' ⟨rfl,hk⟩))
  go_ret
  exact ⟨by rw [H1.out];rfl,Kept.alloc hk _⟩
theorem assert_flt (v:Value) (w:World):(Instr.typeAssert (.iface 82 v) 20 82 true).run Tryz.prog w=.ok (.tuple #[v,.bool true]) w:=by kernel_rfl
set_option maxHeartbeats 1000000 in
theorem forkOf_any (k:Nat) (w:World):Calls Tryz.prog 33 #[.iface 82 (.pointer (some ⟨k,0,none⟩))] w fun e w' => e=.returned (.iface 82 (.pointer (some ⟨k,0,none⟩)))∧w' = w:=by
 have hta:=assert_flt (.pointer (some ⟨k,0,none⟩)) w
 go_enter Tryz.func33,Tryz.ntmps33
 go_wp2_with fail
 go_ret
 exact ⟨rfl,rfl⟩
theorem any_ne (v:Value) (w:World):(binOp .neq 20 (.iface 82 v) .nilIface).run Tryz.prog w=.ok (.bool true) w:=by kernel_rfl
theorem any_nil (w:World):(binOp .neq 20 .nilIface .nilIface).run Tryz.prog w=.ok (.bool false) w:=by kernel_rfl
set_option maxHeartbeats 2000000 in
theorem catch_fork {ps pe:Nat} {s:Int} (k:Nat) (w:World) (hs:w.cell? ⟨ps,0,none⟩=some (.int .i64 s)) {x:Value} (he:w.heap[pe]? = some (.cells #[x] 37 (0,0))) (hpe:¬ ps=pe) :
  CallsD Tryz.prog 32 #[.pointer (some ⟨ps,0,none⟩),.pointer (some ⟨pe,0,none⟩)] (.panicking [{ v:=.iface 82 (.pointer (some ⟨k,0,none⟩)),recovered:=false }]) w fun e u' w' =>
   e=.returned (.tuple #[])∧u' = .panicking [{ v:=.iface 82 (.pointer (some ⟨k,0,none⟩)),recovered:=true }]∧∃ q,w'.heap[q]? = some (.cells #[.int .i64 81,.int .i64 s,.iface 82 (.pointer (some ⟨k,0,none⟩))] 84 (0,0))∧w'.heap[pe]? = some (.cells #[.iface 82 (.pointer (some ⟨q,0,none⟩))] 37 (0,0))∧Kept (fun i=>i=pe) w w' := by
 have hne:=any_ne
 have hfk:=forkOf_any
 have c0:=cellAt he 0
 have f0:=frozenAt he 0
 simp only [List.getElem?_toArray,List.getElem?_cons_zero] at c0
 refine callsD_of_wpS Tryz.func32 rfl fun c₀ cs hu=>?_
 apply wpS_seq
 apply wpS_region
 simp [wpOpsS,go_sem,recoverD,hu,Tryz.ntmps32,Exit.thenS]
 apply wpS_of_wp
 have d0:w.drew.cell? ⟨ps,0,none⟩=some (.int .i64 s):=hs
 have fa:∀ o,(w.drew.alloc o).cell? ⟨pe,0,none⟩=some x:=fun o=>cell_al (w:=w.drew) c0 o
 have fz:∀ o,(w.drew.alloc o).frozen? ⟨pe,0,none⟩=false:=fun o=>frozenAt (Same0.at0 (Kept.alloc (Kept.drew (Kept.refl (fun _=>False) w)) o) he) 0
 have FIN:Hid (∃ q,((w.drew.alloc (.cells #[.int .i64 81,.int .i64 s,.iface 82 (.pointer (some ⟨k,0,none⟩))] 84)).setCell ⟨pe,0,none⟩ (.iface 82 (.pointer (some ⟨w.heap.size,0,none⟩)))).heap[q]? = some (.cells #[.int .i64 81,.int .i64 s,.iface 82 (.pointer (some ⟨k,0,none⟩))] 84 (0,0))∧((w.drew.alloc (.cells #[.int .i64 81,.int .i64 s,.iface 82 (.pointer (some ⟨k,0,none⟩))] 84)).setCell ⟨pe,0,none⟩ (.iface 82 (.pointer (some ⟨w.heap.size,0,none⟩)))).heap[pe]? = some (.cells #[.iface 82 (.pointer (some ⟨q,0,none⟩))] 37 (0,0))∧Kept (fun i=>i=pe) w ((w.drew.alloc (.cells #[.int .i64 81,.int .i64 s,.iface 82 (.pointer (some ⟨k,0,none⟩))] 84)).setCell ⟨pe,0,none⟩ (.iface 82 (.pointer (some ⟨w.heap.size,0,none⟩))))):=by
  have ka:Same0 w (w.drew.alloc (.cells #[.int .i64 81,.int .i64 s,.iface 82 (.pointer (some ⟨k,0,none⟩))] 84)):=Kept.alloc (Kept.drew (Kept.refl _ w)) _
  have ks:=Kept.setCell (p:=⟨pe,0,none⟩) (Kept.refl (fun i=>i=pe) (w.drew.alloc (.cells #[.int .i64 81,.int .i64 s,.iface 82 (.pointer (some ⟨k,0,none⟩))] 84))) (fun _=>rfl) (.iface 82 (.pointer (some ⟨w.heap.size,0,none⟩)))
  have hp:pe<w.heap.size:=lt_of_at he
  exact ⟨w.heap.size,ks.at (heap_alloc_new w.drew _) (fun e=>by omega),setAt (ka.at0 he) 0 _,Kept.trans ka.mono' ks (fun _ _ e=>e)⟩
 clear he
 go_wp2_with fail
 have fa1:=fa (.cells #[.int .i64 81,.int .i64 s,.iface 82 (.pointer (some ⟨k,0,none⟩))] 84)
 have fz1:=fz (.cells #[.int .i64 81,.int .i64 s,.iface 82 (.pointer (some ⟨k,0,none⟩))] 84)
 have fs1:(w.drew.alloc (.cells #[.int .i64 81,.int .i64 s,.iface 82 (.pointer (some ⟨k,0,none⟩))] 84)).cell? ⟨ps,0,none⟩=some (.int .i64 s):=cell_al (w:=w.drew) hs _
 have fs2:((w.drew.alloc (.cells #[.int .i64 81,.int .i64 s,.iface 82 (.pointer (some ⟨k,0,none⟩))] 84)).setCell ⟨pe,0,none⟩ (.iface 82 (.pointer (some ⟨w.heap.size,0,none⟩)))).cell? ⟨ps,0,none⟩=some (.int .i64 s):=by
  have ks:=Kept.setCell (p:=⟨pe,0,none⟩) (Kept.refl (fun i=>i=pe) (w.drew.alloc (.cells #[.int .i64 81,.int .i64 s,.iface 82 (.pointer (some ⟨k,0,none⟩))] 84))) (fun _=>rfl) (.iface 82 (.pointer (some ⟨w.heap.size,0,none⟩)))
  exact (ks.cell (p:=⟨ps,0,none⟩) (World.block_lt_of_cell? _ _ fs1) hpe).trans fs1
 have fa2:(w.alloc (.cells #[.int .i64 81,.int .i64 s,.iface 82 (.pointer (some ⟨k,0,none⟩))] 84)).cell? ⟨pe,0,none⟩=some x:=fa1
 have fz2:(w.alloc (.cells #[.int .i64 81,.int .i64 s,.iface 82 (.pointer (some ⟨k,0,none⟩))] 84)).frozen? ⟨pe,0,none⟩=false:=fz1
 clear fa fz
 refine wp_region_held_drew (S:=fun w' => w'.cell? ⟨ps,0,none⟩=some (.int .i64 s)) (by kernel_rfl) d0 (fun hHeld=>?_)
 refine wpAnyH_take (i:=0) (v:=.int .i64 s) rfl (by kernel_rfl) (by kernel_rfl) (by kernel_rfl) (fun _ _ _ h=>h) (.inl ⟨rfl,fun w' hS=>by simp [go_sem,hS]⟩) hHeld ?_
 refine wpAnyH_take (i:=1) (v:=.iface 82 (.pointer (some ⟨k,0,none⟩))) rfl (by kernel_rfl) (by kernel_rfl) (by kernel_rfl) (fun _ _ _ h=>h) (.inl ⟨rfl,fun w' hS=>by simp [go_sem]⟩) hHeld ?_
 refine wpAnyH_ready (rs:=[2]) (by kernel_rfl) (by simp) ?_
 refine AllReadyH.cons rfl (fun K hK=>?_) AllReadyH.nil
 refine step_callx rfl (hfk k w.drew) (by simp [go_sem]) ?_
 rintro e w2 ⟨rfl,rfl⟩
 refine ⟨_,rfl,?_⟩
 refine hK.out _ _ d0 (fun hHeld=>?_)
 clear hK K
 refine wpAnyH_take (i:=3) (v:=.agg #[.int .i64 81,.int .i64 s,.iface 82 (.pointer (some ⟨k,0,none⟩))]) rfl (by kernel_rfl) (by kernel_rfl) (by kernel_rfl) (fun _ _ _ h=>h) (.inl ⟨rfl,fun w' hS=>by simp [go_sem]⟩) hHeld ?_
 refine wpAnyH_ready (rs:=[4]) (by kernel_rfl) (by simp) ?_
 refine AllReadyH.cons rfl (fun K hK=>?_) AllReadyH.nil
 go_simp
 refine hK.out _ _ fs1 (fun hHeld=>?_)
 clear hK K
 refine wpAnyH_take (i:=5) (v:=.iface 82 (.pointer (some ⟨w.heap.size,0,none⟩))) rfl (by kernel_rfl) (by kernel_rfl) (by kernel_rfl) (fun _ _ _ h=>h) (.inl ⟨rfl,fun w' hS=>by simp [go_sem]⟩) hHeld ?_
 refine wpAnyH_ready (rs:=[6]) (by kernel_rfl) (by simp) ?_
 refine AllReadyH.cons rfl (fun K hK=>?_) AllReadyH.nil
 go_simp
 refine hK.out _ _ fs2 (fun hHeld=>?_)
 clear hK K
 refine wpAnyH_done (by kernel_rfl) ?_ _
 go_wp2_with fail
 simp [go_sem,bodyPostS,results,Tryz.results32]
 exact FIN.out
set_option maxHeartbeats 2000000 in
theorem catch_none {ps pe:Nat} (w:World) :
  CallsD Tryz.prog 32 #[.pointer (some ⟨ps,0,none⟩),.pointer (some ⟨pe,0,none⟩)] .returning w fun e u' w' => e=.returned (.tuple #[])∧u' = .returning∧w' = w:=by
 have hne:=any_nil
 refine callsD_of_wpS Tryz.func32 rfl fun c₀ cs hu=>?_
 apply wpS_seq
 apply wpS_region
 simp [wpOpsS,go_sem,recoverD,hu,Tryz.ntmps32,Exit.thenS]
 apply wpS_of_wp
 go_wp2_with fail
 simp [go_sem,bodyPostS,results,Tryz.results32]
 cases c₀
 simp only at hu
 subst hu
 rfl
set_option maxHeartbeats 2000000 in
theorem indexf_var {w:World} {so:Option Addr} {sc:Nat} {t:List Int} (ht:IntsAt w so t) (hm:t.length≤maxLen) :
  Calls Tryz.prog 75 #[.slice so t.length sc,.func (.func 45) #[] #[]] w fun e w' => ∃ z:Int,e=.returned (.int .i64 z)∧FoundAt z (t.any (fun x=>decide (x<0)))∧w' = w:=by
 have CV:=tvar_any
 unfold maxLen at hm
 go_enter Tryz.func75,Tryz.ntmps75
 go_wp2
 go_loop [8] (fun i=>∃ k:Nat,k≤t.length∧i=.int .i64 (k:Int)∧Hid ((t.take k).any (fun x=>decide (x<0))=false)) (fun i=>t.length-(intOf i).toNat)
 case atStart=>exact ⟨0,Nat.zero_le _,rfl,by show _=_;simp⟩
 case round=>
  obtain ⟨k,hk,rfl,ha⟩:=hrel
  by_cases hlt:k<t.length
  ·obtain ⟨tb,off,rfl,_,hc⟩:=ht.get hlt
   have i1:(0:Int)≤(k:Int):=by omega
   have i2:(k:Int)<(t.length:Int):=by omega
   have C:=CV t[k] w
   cases hq:decide (t[k]<0) with
   | true=>
    have H:Hid (FoundAt (k:Int) (t.any (fun x=>decide (x<0)))):=by
     have e1:t.any (fun x=>decide (x<0))=true:=List.any_eq_true.2 ⟨t[k],List.getElem_mem hlt,hq⟩
     show decide _=_
     rw [e1];simp
    rw [hq] at C
    clear hq ha CV
    go_wp2_with (first | (go_at_call 45;refine C.mono ?_;rintro e w2 ⟨rfl,rfl⟩))
    go_ret
    exact ⟨_,rfl,H.out,rfl⟩
   | false=>
    have H:Hid ((t.take (k+1)).any (fun x=>decide (x<0))=false):=by
     have e1:=ha.out
     show _=_
     rw [List.take_add_one,List.getElem?_eq_getElem hlt,List.any_append,e1]
     simpa using hq
    rw [hq] at C
    clear hq ha CV
    go_wp2_with (first | (go_at_call 45;refine C.mono ?_;rintro e w2 ⟨rfl,rfl⟩))
    exact ⟨⟨k+1,by omega,by go_num,H⟩,by simp [intOf];omega⟩
  ·have H:Hid (FoundAt (-1) (t.any (fun x=>decide (x<0)))):=by
    have:=ha.out
    rw [List.take_of_length_le (by omega)] at this
    show decide _=_
    rw [this];rfl
   go_wp2
   go_ret
   exact ⟨_,rfl,H.out,rfl⟩
set_option maxHeartbeats 1000000 in
theorem containsf_var {w:World} {so:Option Addr} {sc:Nat} {t:List Int} (ht:IntsAt w so t) (hm:t.length≤maxLen) :
  Calls Tryz.prog 44 #[.slice so t.length sc,.func (.func 45) #[] #[]] w fun e w' => e=.returned (.bool (t.any (fun x=>decide (x<0))))∧w' = w:=by
 have C:=indexf_var (sc:=sc) ht hm
 clear ht
 generalize t.any (fun x=>decide (x<0))=z at *
 go_enter Tryz.func44,Tryz.ntmps44
 go_wp2_with (first | (go_at_call 75;refine C.mono ?_;rintro e w2 ⟨z', rfl,hz,rfl⟩))
 go_ret
 exact ⟨ret_bool (FoundAt.eq hz),rfl⟩
set_option maxHeartbeats 8000000 in
theorem walk_demand {w:World} {bs:Nat} {L:List Sym} (hs:Sg w.heap.size w bs L) {n:Nat} {B:Nat→Prop} {v:Value} {r:Int} {p:List Int} {l:List (Int × Tr n)} (h:CsB B w (n+1) v (2,r,p,l)) {tto:Option Addr} {tc:Nat} {T:List Int} (ht:Arg w tto T tc) (hc:checkE L T=0) (hv:T.any (fun x=>decide (x<0))=false) {a:Nat} (ha:a<T.length) {q:Nat} (hq:leads L (subN L T a) 0 p=some q) (hql:q<(subN L T a).length) (hd:defB L (subN L T a)[q]=true) :
  Calls Tryz.prog 15 #[.pointer (some ⟨bs,0,none⟩),v,.slice tto T.length tc,.int .i64 (a:Int)] w fun e w' => ∃ po pc,e=.returned (.tuple #[.agg #[.int .i64 3,.int .i64 0,.slice po p.length pc,.int .i64 ((a+q:Nat):Int)],.int .i64 0])∧IntsAt w' po p∧Same0 w w' := by
 obtain ⟨po,pc,ko,kc,rfl,h2,h3,h4,h5,h6⟩:=h
 have hT:=checkE_zero.1 hc
 have hpz:placeE L T (a:Int)=0:=by unfold placeE;rw [if_neg (by simp [hc]),if_neg (by omega)]
 have hsub:checkE L (subN L T a)=0:=by
  refine checkE_zero.2 ⟨?_,?_,sub_need hT.2.2 ha⟩
  ·rw [sub_length hT.2.2 ha];have:=(endN_le hT.2.2 ha).2;omega
  ·refine badE_zero.2 (fun x hx=>badE_zero.1 hT.2.1 x ?_)
   unfold subN at hx
   exact List.mem_of_mem_take (List.mem_of_mem_drop hx)
 obtain ⟨W1,hW1⟩:∃ W1,W1=(w.alloc (.cells #[.int .i64 2,.int .i64 r,.slice po p.length pc,.slice ko l.length kc] 35)).alloc (.cells #[.int .i64 0,.int .i64 0,.slice none 0 0,.int .i64 0] 53):=⟨_,rfl⟩
 have KW:Same0 w W1:=by rw [hW1];exact ((Kept.refl _ w).alloc _).alloc _
 have ez:w.heap.size+1<W1.heap.size:=by rw [hW1];simp
 have BX:Hid (∀ ww,Same0 W1 ww→ww.cell? ⟨w.heap.size,0,none⟩=some (.int .i64 2)∧ww.cell? ⟨w.heap.size,2,none⟩=some (.slice po p.length pc)):=fun ww hk=>by
  have h1:=hk.at0 (show W1.heap[w.heap.size]? = _ by rw [hW1];exact heap_alloc2_old _ _ _)
  exact ⟨cellAt h1 0,cellAt h1 2⟩
 have RS:Hid (∀ ww,Same0 W1 ww→ww.heap[w.heap.size+1]? = some (.cells #[.int .i64 0,.int .i64 0,.slice none 0 0,.int .i64 0] 53 (0,0))):=fun ww hk=>hk.at0 (by rw [hW1];exact heap_al_al _ _ _)
 have RC:Hid (∀ ww,Same0 W1 ww→(ww.cell? ⟨w.heap.size+1,0,none⟩=some (.int .i64 0)∧ww.cell? ⟨w.heap.size+1,1,none⟩=some (.int .i64 0)∧ww.cell? ⟨w.heap.size+1,2,none⟩=some (.slice none 0 0)∧ww.cell? ⟨w.heap.size+1,3,none⟩=some (.int .i64 0))∧ww.frozen? ⟨w.heap.size+1,0,none⟩=false∧ww.frozen? ⟨w.heap.size+1,1,none⟩=false∧ww.frozen? ⟨w.heap.size+1,2,none⟩=false∧ww.frozen? ⟨w.heap.size+1,3,none⟩=false):=fun ww hk=>by
  have rs:=RS.out ww hk
  exact ⟨⟨cellAt rs 0,cellAt rs 1,cellAt rs 2,cellAt rs 3⟩,frozenAt rs 0,frozenAt rs 1,frozenAt rs 2,frozenAt rs 3⟩
 have PUT:Hid (∀ ww x0 x1 x2 x3,Same0 W1 ww→(((((ww.setCell ⟨w.heap.size+1,0,none⟩ x0).setCell ⟨w.heap.size+1,1,none⟩ x1).setCell ⟨w.heap.size+1,2,none⟩ x2).setCell ⟨w.heap.size+1,3,none⟩ x3)).cell? ⟨w.heap.size+1,0,none⟩=some x0∧(((((ww.setCell ⟨w.heap.size+1,0,none⟩ x0).setCell ⟨w.heap.size+1,1,none⟩ x1).setCell ⟨w.heap.size+1,2,none⟩ x2).setCell ⟨w.heap.size+1,3,none⟩ x3)).cell? ⟨w.heap.size+1,1,none⟩=some x1∧(((((ww.setCell ⟨w.heap.size+1,0,none⟩ x0).setCell ⟨w.heap.size+1,1,none⟩ x1).setCell ⟨w.heap.size+1,2,none⟩ x2).setCell ⟨w.heap.size+1,3,none⟩ x3)).cell? ⟨w.heap.size+1,2,none⟩=some x2∧(((((ww.setCell ⟨w.heap.size+1,0,none⟩ x0).setCell ⟨w.heap.size+1,1,none⟩ x1).setCell ⟨w.heap.size+1,2,none⟩ x2).setCell ⟨w.heap.size+1,3,none⟩ x3)).cell? ⟨w.heap.size+1,3,none⟩=some x3∧Kept (fun i=>i=w.heap.size+1) ww (((((ww.setCell ⟨w.heap.size+1,0,none⟩ x0).setCell ⟨w.heap.size+1,1,none⟩ x1).setCell ⟨w.heap.size+1,2,none⟩ x2).setCell ⟨w.heap.size+1,3,none⟩ x3))∧Same0 w (((((ww.setCell ⟨w.heap.size+1,0,none⟩ x0).setCell ⟨w.heap.size+1,1,none⟩ x1).setCell ⟨w.heap.size+1,2,none⟩ x2).setCell ⟨w.heap.size+1,3,none⟩ x3))):=by
  intro ww x0 x1 x2 x3 hk
  have rs:=RS.out ww hk
  have s3:=setAt (setAt (setAt (setAt rs 0 x0) 1 x1) 2 x2) 3 x3
  have k1:=Kept.setCell (p:=⟨w.heap.size+1,0,none⟩) (Kept.refl (fun q=>q=w.heap.size+1) ww) (fun _=>rfl) x0
  have k2:=Kept.setCell (p:=⟨w.heap.size+1,1,none⟩) k1 (fun _=>rfl) x1
  have k3:=Kept.setCell (p:=⟨w.heap.size+1,2,none⟩) k2 (fun _=>rfl) x2
  have k4:=Kept.setCell (p:=⟨w.heap.size+1,3,none⟩) k3 (fun _=>rfl) x3
  exact ⟨cellAt s3 0,cellAt s3 1,cellAt s3 2,cellAt s3 3,k4,Kept.trans (KW.trans' hk) k4 (fun i hi e=>by omega)⟩
 have C1:=check_any (cap:=tc) (sg_up (hs.same KW) KW.size) (ht.same KW).at' (by unfold maxLen;omega)
 rw [hc] at C1
 have C2:Hid (∀ ww,Same0 W1 ww→Calls Tryz.prog 44 #[.slice tto T.length tc,.func (.func 45) #[] #[]] ww fun e w' => e=.returned (.bool false)∧w' = ww):=fun ww hk=>by
  have:=containsf_var (sc:=tc) ((ht.same KW).same hk).at' (by unfold maxLen;omega)
  rw [hv] at this
  exact this
 have C3:Hid (∀ ww,Same0 W1 ww→Calls Tryz.prog 46 #[.pointer (some ⟨bs,0,none⟩),.slice tto T.length tc,.int .i64 (a:Int)] ww fun e w' => ∃ uo uc,e=.returned (.tuple #[.slice uo (subN L T a).length uc,.int .i64 0])∧Hid (IntsAt w' uo (subN L T a))∧Same0 ww w'):=fun ww hk=>by
  refine (sub_any (cap:=tc) (sg_up ((hs.same KW).same hk) (KW.trans' hk).size) ((ht.same KW).same hk).at' (by unfold maxLen;omega) ht.cap' (a:Int)).mono ?_
  rintro e w' ⟨v,rfl,hr,k⟩
  rw [subA,if_pos hpz] at hr
  simp only [Int.toNat_natCast] at hr
  obtain ⟨uo,uc,rfl,h1,_⟩:=hr.ints
  exact ⟨uo,uc,by rw [hpz],h1,k⟩
 have C4:Hid (∀ ww uo uc,Same0 W1 ww→IntsAt ww uo (subN L T a)→Calls Tryz.prog 47 #[.pointer (some ⟨bs,0,none⟩),.slice uo (subN L T a).length uc,.slice po p.length pc] ww fun e w' => e=.returned (.tuple #[.int .i64 (q:Int),.int .i64 0])∧Same0 ww w'):=fun ww uo uc hk hu=>by
  have:=place_any (cap:=uc) (pcap:=pc) (sg_up ((hs.same KW).same hk) (KW.trans' hk).size) hu (by have:=checkE_zero.1 hsub;unfold maxLen;omega) ((h2.same KW).same hk).at' (by have:=h2.size;unfold maxLen;omega)
  unfold leadA leadE at this
  rw [if_neg (by simp [hsub]),if_neg (by simp [hsub]),hq] at this
  exact this
 have C5:Hid (∀ ww,Same0 W1 ww→Calls Tryz.prog 31 #[.pointer (some ⟨bs,0,none⟩),.int .i64 (subN L T a)[q]] ww fun e w' => e=.returned (.bool true)∧Same0 ww w'):=fun ww hk=>by rw [← hd];exact tdef_any (sg_up ((hs.same KW).same hk) (KW.trans' hk).size) _
 have C6:Hid (∀ ww,Same0 W1 ww→Calls Tryz.prog 48 #[.slice po p.length pc] ww fun e w' => ∃ co cc,e=.returned (.slice co p.length cc)∧Hid (IntsAt w' co p∧∀ a,co=some a→ww.heap.size≤a.block)∧Same0 ww w'):=fun ww hk=>by
  refine (cloneI_any ((h2.same KW).same hk)).mono ?_
  rintro e w' ⟨v,rfl,hr,k⟩
  obtain ⟨co,cc,rfl,h1,_,hb⟩:=hr.ints
  exact ⟨co,cc,rfl,⟨h1,fun a e=>(hb a e).1⟩,k⟩
 have ew:IntKind.i64.wrap ((a:Int)+(q:Int))=(a:Int)+(q:Int):=iwrap (by omega) (by have:=checkE_zero.1 hsub;omega)
 have i1:(0:Int)≤(q:Int):=by omega
 have i2:(q:Int)<((subN L T a).length:Int):=by omega
 generalize hU:subN L T a=U at *
 clear hU h6 h2 h3 hsub hT hc hv hpz hq hd ht hs
 obtain ⟨b0,b2⟩:=BX.out W1 (Kept.refl _ _)
 go_enter Tryz.func15,Tryz.ntmps15
 go_upto_region 1 with fail
 rw [← hW1]
 clear hW1
 go_upto_region 4 with (first | (go_at_call 43;refine C1.mono ?_;rintro e w2 ⟨rfl,k2⟩))
 have D2:=C2.out w2 k2
 go_upto_region 6 with (first | (go_at_call 44;refine D2.mono ?_;rintro e w3 ⟨rfl,rfl⟩))
 have D3:=C3.out w3 k2
 go_wp2_with (first | (go_at_call 46;refine D3.mono ?_;rintro e w4 ⟨uo,uc,rfl,hu,k4⟩))
 have k14:=k2.trans' k4
 obtain ⟨c0,c2⟩:=BX.out w4 k14
 have D4:=C4.out w4 uo uc k14 hu.out
 refine wp_loop_rounds 1 ?_
 rw [rounds_succ]
 go_upto_region 13 with (first | (go_at_call 47;refine D4.mono ?_;rintro e w5 ⟨rfl,k5⟩))
 obtain ⟨ub,uoff,rfl,hub,hcell⟩:=(hu.out.same k5).get hql
 have D5:=C5.out w5 (k14.trans' k5)
 go_upto_region 14 with (first | (go_at_call 31;refine D5.mono ?_;rintro e w6 ⟨rfl,k6⟩))
 have k16:=(k14.trans' k5).trans' k6
 obtain ⟨d0,d2⟩:=BX.out w6 k16
 have D6:=C6.out w6 k16
 go_wp2_with (first | (go_at_call 48;refine D6.mono ?_;rintro e w7 ⟨co,cc,rfl,hcl,k7⟩;obtain ⟨⟨r0,r1,r2,r3⟩,f0,f1,f2,f3⟩:=RC.out w7 (k16.trans' k7)))
 obtain ⟨g0,g1,g2,g3,kk,ks⟩:=PUT.out w7 (.int .i64 3) (.int .i64 0) (.slice co p.length cc) (.int .i64 ((a:Int)+(q:Int))) (k16.trans' k7)
 obtain ⟨hc1,hc2⟩:=hcl.out
 have z6:=k16.size
 exact bodyPost_ret (v:=.tuple #[.agg #[.int .i64 3,.int .i64 0,.slice co p.length cc,.int .i64 ((a:Int)+(q:Int))],.int .i64 0]) (by simp [results,Tryz.results15,go_sem,g0,g1,g2,g3]) rfl ⟨co,cc,by simp,hc1.kept kk (fun a e f=>by have:=hc2 a e;omega),ks⟩
end Go.Proofs.YtfojfpnjnpkabaaGreat
namespace Go.Proofs.YtfojfpnjnpkabaaGreat
set_option maxRecDepth 100000
set_option linter.unusedVariables false
open Go.RowKit
theorem leads_lt {L:List Sym} {t:List Int} (h:IsT L t):∀ (path:List Int) (p:Nat),p<t.length→∀ q,leads L t p path=some q→q<t.length
 | [],p,hp,q,e=>by simp [leads] at e;omega
 | n :: r,p,hp,q,e=>by
  rw [leads] at e
  split at e
  ·cases e
  ·rw [argsN_eq hp] at e
   split at e
   ·rename_i hn q' hq'
    refine leads_lt h r q' ?_ q e
    obtain ⟨h1,h2⟩:=List.getElem?_eq_some_iff.1 hq'
    rw [starts_length] at h1
    have:=past_lt h hp h1
    rw [starts_at h1] at hq'
    cases hq'
    exact this
   ·cases e
abbrev Fd:=Int × Int × List Int × Int × Int
def goF (L:List Sym) (U:List Int) (a:Int):(n:Nat)→Tr n→Fd
 | 0,_=>(2,0,[],0,0)
 | n+1,(k,r,p,l)=>if k=2 then (match leads L U 0 p with
  | none=>(0,0,[],0,25)
  | some q=>if defB L (U.getD q 0)=true then (3,0,p,a+q,0) else (match kidOf (U.getD q 0) l with | none=>(2,0,[],0,0) | some t=>goF L U a n t)) else if k=1 then (1,r,[],0,0) else (2,0,[],0,0)
def SmW:(n:Nat)→Tr n→Prop
 | 0,_=>True
 | n+1,(k,r,p,l)=>l.length≤140737488355328∧∀ i (h:i<l.length),SmW n l[i].2
def mesT:(n:Nat)→Tr n→Nat
 | 0,_=>0
 | n+1,(k,r,p,l)=>2 * (n+1)+(if k=2 then 1 else 0)
theorem mesT_le:∀ (n:Nat) (t:Tr n),mesT n t≤2 * n+1
 | 0,t=>t.elim
 | n+1,(k,r,p,l)=>by simp only [mesT];split <;> omega
theorem kidOf_mem {α:Type} {s:Int}:∀ {l:List (Int × α)} {t:α},kidOf s l=some t→∃ i,∃ h:i<l.length,l[i].2=t
 | [],t,e=>by simp [kidOf] at e
 | x :: r,t,e=>by
  rw [kidOf] at e
  split at e
  ·exact ⟨0,by simp,by simpa using e⟩
  ·obtain ⟨i,h,e1⟩:=kidOf_mem e
   exact ⟨i+1,by simpa using h,by simpa using e1⟩
theorem least_ex (P:Nat→Prop) (h:∃ n,P n):∃ n,P n∧∀ m,P m→n≤m:=by
 apply Classical.byContradiction
 intro hc
 obtain ⟨n,hn⟩:=h
 have:∀ n,¬ P n:=fun n=>Nat.strongRecOn n (fun n ih hp=>hc ⟨n,hp,fun m hm=>Nat.le_of_not_lt (fun hlt=>ih m hlt hm)⟩)
 exact this n hn
theorem least_fun:∃ f:(Nat→Prop)→Nat,(∀ P:Nat→Prop,(∃ n,P n)→P (f P))∧∀ (P:Nat→Prop) n,P n→f P≤n:=by
 have h:∀ P:Nat→Prop,∃ m,((∃ n,P n)→P m)∧∀ n,P n→m≤n:=fun P=>by
  by_cases q:∃ n,P n
  ·obtain ⟨m,h1,h2⟩:=least_ex P q
   exact ⟨m,fun _=>h1,h2⟩
  ·exact ⟨0,fun e=>absurd e q,fun n hn=>absurd ⟨n,hn⟩ q⟩
 obtain ⟨f,hf⟩:=Classical.axiomOfChoice h
 exact ⟨f,fun P=>(hf P).1,fun P=>(hf P).2⟩
def WAt (B:Nat→Prop) (b:Nat) (L:List Sym) (U:List Int) (a:Int) (R:Fd) (w:World) (N:Nat):Prop:=∃ (n:Nat) (t:Tr n) (x0 x1 x2 x3:Value),mesT n t=N∧w.heap[b]? = some (.cells #[x0,x1,x2,x3] 35 (0,0))∧CsB B w n (.agg #[x0,x1,x2,x3]) t∧SmW n t∧goF L U a n t=R
section
variable {L : List Sym} {T : List Int} {a : Nat}
theorem sub_end (hT:IsT L T) (ha:a<T.length):a+(subN L T a).length=endN L T a∧endN L T a≤T.length:=by
 have h1:=endN_le hT ha
 rw [sub_length hT ha]
 omega
theorem drop_sub (hT:IsT L T) (ha:a<T.length) {p:Nat} (hp:p≤(subN L T a).length):T.drop (a+p)=(subN L T a).drop p++T.drop (endN L T a):=by
 obtain ⟨h1,h2⟩:=sub_end hT ha
 have e:T.drop (a+p)=(T.take (endN L T a)++T.drop (endN L T a)).drop (a+p):=by rw [List.take_append_drop]
 rw [e,List.drop_append_of_le_length (by rw [List.length_take];omega)]
 unfold subN
 rw [List.drop_drop]
theorem at_sub (hT:IsT L T) (ha:a<T.length) {p:Nat} (hp:p<(subN L T a).length) (hq:a+p<T.length):T[a+p]=(subN L T a)[p]:=by
 have e:=drop_sub hT ha (Nat.le_of_lt hp)
 rw [List.drop_eq_getElem_cons hq,List.drop_eq_getElem_cons hp] at e
 simpa using (List.cons.inj e).1
end
end Go.Proofs.YtfojfpnjnpkabaaGreat
namespace Go.Proofs.YtfojfpnjnpkabaaGreat
set_option linter.unusedVariables false
def fitK (L:List Sym):List Int→Nat→List Int→Bool
 | [],k,_=>decide (k=0)
 | n :: r,k,ts=>if k=0 then true else if 0≤n then (match ts with | []=>false | x :: ts' => decide (x=n) && fitK L r (k-1+arN L n) ts') else fitK L r (k-1) (ts.drop ((scan L 1 ts).getD 0))
theorem fitK_zero (L:List Sym) (p ts:List Int):fitK L p 0 ts=true:=by cases p <;> rfl
theorem fitK_sym {L:List Sym} {n x:Int} {r ts:List Int} {k:Nat} (hn:0≤n):fitK L (n :: r) (k+1) (x :: ts)=(decide (x=n) && fitK L r (k+arN L n) ts):=by
 rw [fitK,if_neg (by omega),if_pos hn,Nat.add_sub_cancel]
theorem fitK_var {L:List Sym} {n:Int} {r ts:List Int} {k m:Nat} (hn:¬ 0≤n) (h:scan L 1 ts=some m):fitK L (n :: r) (k+1) ts=fitK L r k (ts.drop m):=by
 show (if k+1=0 then true else if 0≤n then _ else fitK L r (k+1-1) (ts.drop ((scan L 1 ts).getD 0)))=_
 rw [if_neg (by omega),if_neg hn,h,Nat.add_sub_cancel,Option.getD_some]
theorem scan_one {L:List Sym} {n:Int} {r:List Int} {a m:Nat} (h:scan L (a+1) (n :: r)=some m):∃ m1,scan L (a+arN L n) r=some m1∧m=m1+1:=by
 simp only [scan,Option.map_eq_some_iff] at h
 obtain ⟨m1,h1,h2⟩:=h
 exact ⟨m1,h1,by omega⟩
theorem fitK_add {L:List Sym} (b:Nat):∀ {p:List Int} {a m m' : Nat} {ts:List Int},scan L a p=some m→scan L a ts=some m' → fitK L p (a+b) ts=(fitK L p a ts && fitK L (p.drop m) b (ts.drop m')):=by
 intro p
 induction p with
 | nil=>
  intro a m m' ts h1 h2
  cases a with
  | zero=>rw [scan_zero] at h1 h2;cases h1;cases h2;simp [fitK_zero]
  | succ a=>simp [scan] at h1
 | cons n r ih=>
  intro a m m' ts h1 h2
  cases a with
  | zero=>rw [scan_zero] at h1 h2;cases h1;cases h2;simp [fitK_zero]
  | succ a=>
   cases ts with
   | nil=>simp [scan] at h2
   | cons x ts' =>
    rw [show a+1+b=(a+b)+1 by omega]
    obtain ⟨m1,g1,rfl⟩:=scan_one h1
    by_cases hn:0≤n
    ·rw [fitK_sym hn,fitK_sym hn]
     by_cases e:x=n
     ·subst e
      obtain ⟨m2,g2,rfl⟩:=scan_one h2
      rw [show a+b+arN L x=a+arN L x+b by omega,ih g1 g2]
      simp
     ·simp [e]
    ·rw [arN_neg hn,Nat.add_zero] at g1
     obtain ⟨u,u', k1,k2,rfl⟩:=scan_add (a:=1) (b:=a) (by rw [Nat.add_comm];exact h2)
     rw [fitK_var hn k1,fitK_var hn k1,ih g1 k2,List.drop_succ_cons,List.drop_drop]
def fitA (L:List Sym) (p:List Int) (i:Nat) (t:List Int) (j:Nat):Bool:=fitK L (p.drop i) 1 (t.drop j)
def fitP8 (L:List Sym) (p:List Int) (t:List Int):List Nat→List Nat→Bool
 | i :: ps,j :: qs=>fitA L p i t j && fitP8 L p t ps qs
 | _,_=>true
theorem fit_starts {L:List Sym} {p t:List Int}:∀ (k i j qi qj:Nat),Forest L p k i qi→Forest L t k j qj→fitK L (p.drop i) k (t.drop j)=fitP8 L p t (starts L p k i) (starts L t k j)
 | 0,i,j,_,_,_,_=>by rw [fitK_zero];rfl
 | k+1,i,j,qi,qj,h1,h2=>by
  obtain ⟨a1,a2,a3⟩:=h1.succ
  obtain ⟨b1,b2,b3⟩:=h2.succ
  obtain ⟨m,c1,c2,_⟩:=a1
  obtain ⟨m', d1,d2,_⟩:=b1
  have e:=fitK_add k c1 d1
  rw [Nat.add_comm 1 k,List.drop_drop,List.drop_drop,← c2,← d2,fit_starts k _ _ qi qj a3 b3] at e
  rw [e]
  rfl
theorem fitA_var {L:List Sym} {p t:List Int} {i j:Nat} (ht:IsT L t) (hi:i<p.length) (hj:j<t.length) (hv:p[i]<0):fitA L p i t j=true:=by
 obtain ⟨m,h1,_⟩:=isT_scan ht hj
 rw [fitA,List.drop_eq_getElem_cons hi,fitK_var (by omega) h1,fitK_zero]
theorem fitA_sym {L:List Sym} {p t:List Int} {i j:Nat} (hp:IsT L p) (ht:IsT L t) (hi:i<p.length) (hj:j<t.length) (hn:0≤p[i]):fitA L p i t j=(decide (t[j]=p[i]) && fitP8 L p t (argsN L p i) (argsN L t j)):=by
 obtain ⟨_,f1⟩:=(Forest.one hp hi).kids
 obtain ⟨_,f2⟩:=(Forest.one ht hj).kids
 rw [fitA,List.drop_eq_getElem_cons hi,List.drop_eq_getElem_cons hj,fitK_sym hn,Nat.zero_add]
 by_cases e:t[j]=p[i]
 ·rw [e] at f2
  rw [argsN_eq hi,argsN_eq hj,e,fit_starts _ _ _ _ _ f1 f2]
 ·simp [e]
theorem fitP8_append {L:List Sym} {p t:List Int}:∀ {a b c d:List Nat},a.length=c.length→fitP8 L p t (a++b) (c++d)=(fitP8 L p t a c && fitP8 L p t b d)
 | [],b,[],d,_=>by simp [fitP8]
 | x :: a,b,y :: c,d,h=>by
  simp only [List.cons_append,fitP8]
  rw [fitP8_append (by simpa using h),Bool.and_assoc]
 | [],b,y :: c,d,h=>by simp at h
 | x :: a,b,[],d,h=>by simp at h
theorem repl_split {α:Type} {l:List α} {c:Nat} (h:c<l.length):l=l.take c ++ [l[c]]++l.drop (c+1):=by
 rw [List.append_assoc,List.singleton_append,List.getElem_cons_drop,List.take_append_drop]
theorem fitP8_at {L:List Sym} {p t:List Int} {ps qs:List Nat} (he:ps.length=qs.length) {c:Nat} (h1:c<ps.length) (h2:c<qs.length):fitP8 L p t ps qs=(fitP8 L p t (ps.take c) (qs.take c) && fitA L p ps[c] t qs[c] && fitP8 L p t (ps.drop (c+1)) (qs.drop (c+1))):=by
 have e1:=repl_split h1
 have e2:=repl_split h2
 have:fitP8 L p t ps qs=fitP8 L p t (ps.take c ++ [ps[c]]++ps.drop (c+1)) (qs.take c ++ [qs[c]]++qs.drop (c+1)):=by rw [← e1,← e2]
 rw [this,fitP8_append (by simp [he]),fitP8_append (by simp [he])]
 simp [fitP8]
theorem fitP8_repl {L:List Sym} {p t:List Int} {ps qs:List Nat} (he:ps.length=qs.length) {c:Nat} {m m' : List Nat} (hm:m.length=m'.length):fitP8 L p t (repl ps c m) (repl qs c m')=(fitP8 L p t (ps.take c) (qs.take c) && fitP8 L p t m m' && fitP8 L p t (ps.drop (c+1)) (qs.drop (c+1))):=by
 unfold repl
 rw [fitP8_append (by simp [he,hm]),fitP8_append (by simp [he])]
theorem args_lt {L:List Sym} {t:List Int} (h:IsT L t) {p:Nat} (hp:p<t.length):∀ x∈argsN L t p,p<x∧x<t.length:=by
 intro x hx
 obtain ⟨_,hk⟩:=(Forest.one h hp).kids
 rw [argsN_eq hp] at hx
 obtain ⟨i,hi,e⟩:=List.getElem_of_mem hx
 rw [starts_length] at hi
 have h2:(starts L t (arN L t[p]) (p+1))[i]? = some x:=by rw [← e];exact List.getElem?_eq_getElem _
 rw [starts_at hi] at h2
 simp only [Option.some.injEq] at h2
 subst h2
 have h3:=hk.drop (Nat.le_of_lt hi)
 have h4:∃ j,arN L t[p]-i=j+1:=⟨arN L t[p]-i-1,by omega⟩
 obtain ⟨j,hj⟩:=h4
 rw [hj] at h3
 have h5:=h3.pos
 have h6:=h3.le
 have h7:p+1≤past L t i (p+1):=by
  cases i with
  | zero=>exact Nat.le_refl _
  | succ i=>
   have:=past_mono hk (i:=0) (j:=i+1) (by omega) (by omega)
   have h0:past L t 0 (p+1)=p+1:=rfl
   rw [h0] at this
   have hs:=(hk.drop (i:=0) (by omega))
   obtain ⟨k', hk'⟩:∃ k', arN L t[p]-0=k' + 1:=⟨arN L t[p]-1,by omega⟩
   rw [hk'] at hs
   have:=hs.succ.2.1
   rw [h0] at this
   omega
 exact ⟨by omega,by omega⟩
end Go.Proofs.YtfojfpnjnpkabaaGreat
