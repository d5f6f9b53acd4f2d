import Derived.Test.YtmloedlkoijfbaaHP08
import Derived.Deep.RegionWith
import Derived.Deep.RegionHeld3
import Derived.Test.YtmloedlkoijfbaaHP01
import Derived.Test.YtmloedlkoijfbaaHP03
import Derived.Test.YtmloedlkoijfbaaHP04
import Derived.Deep.CutRange
namespace Go.Proofs.Ytmloedlkoijfbaa
set_option maxRecDepth 100000
set_option linter.unusedVariables false
open Go.RowKit
attribute [local go_sem ↓] Go.wp_at_zero Go.wp_at_succ
theorem i64_keep {z:Int} (h1 : -9223372036854775808≤z) (h2:z<9223372036854775808):IntKind.i64.wrap z=z:=by
 simp [IntKind.wrap,IntKind.bits,IntKind.signed];omega
theorem NsM.pre {B:Nat→Prop} {w:World} {ao:Option Addr} {l l' : List Nd} (h:NsM B w ao (l++l')):NsM B w ao l:=by
 rcases h with e | ⟨b,off,e,hlt,hc⟩
 ·simp at e;exact .inl e.1
 ·refine .inr ⟨b,off,e,hlt,fun i hi=>?_⟩
  have:=hc i (by simp;omega)
  rw [List.getElem_append_left hi] at this
  exact this
theorem NRow.mem' {B:Nat→Prop} {base:Nat} {w:World} {g4 n cap:Nat} {l:List Nd} (h:NRow B base w (.slice (some ⟨g4,0,none⟩) n cap) l):n=l.length∧NsM B w (some ⟨g4,0,none⟩) l∧n≤cap∧NotI w g4∧base≤g4:=by
 obtain ⟨ao,c,e⟩:=h.shape
 simp only [Value.slice.injEq] at e
 obtain ⟨rfl,rfl,rfl⟩:=e
 refine ⟨rfl,h.mem,?_,(h.block rfl).2.2,(h.block rfl).1⟩
 obtain ⟨vs,h1,_⟩:=h
 rcases h1.2 with ⟨e,_⟩ | ⟨g', cap', cur', e,_,_,hle,_⟩
 ·cases e
 ·simp only [Value.slice.injEq] at e
  omega
theorem NsM.last {B:Nat→Prop} {w:World} {g4:Nat} {l:List Nd} {y:Nd} (h:NsM B w (some ⟨g4,0,none⟩) (l ++ [y])):w.cell? ⟨g4,l.length * 5,none⟩=some (.int .i64 y.1):=by
 rcases h with e | ⟨b,off,e,hlt,hc⟩
 ·simp at e
 ·obtain ⟨xo,xc,n0, -⟩:=hc l.length (by simp)
  simp only [Option.some.injEq,Addr.mk.injEq,and_true] at e
  obtain ⟨rfl,rfl⟩:=e
  simpa using n0
set_option maxHeartbeats 4000000 in
theorem do11_refill {w0 w:World} {h g r:Nat} {v:Value} {room:Nat} {l:List Nd} (s:HP2 Any w0.heap.size w h g r v room l l) (hs:Same0 w0 w) (n m:Int) (hn:I64 n) (hm:I64 m) (two:Bool) {lo:Option Addr} {xs:List Int} {lc:Nat} (hL:Arg w0 lo xs lc) {no:Option Addr} {ns:List Nd} {nc:Nat} (hN:NsW w0 no ns) (hN1:ns.length * 56≤140737488351232) :
  Calls Try.prog 10 #[.pointer (some ⟨h,0,none⟩),.pointer (some ⟨r,0,none⟩),opV11 9 n m two lo xs.length lc no ns.length nc] w fun e w' => e=.returned (.bool true)∧DoT w0.heap.size w h g r v room w' := by
 obtain ⟨E,l1,PM,DM⟩:=refill_two l room ns
 obtain ⟨W1,hW1⟩:∃ W1,W1=w.alloc (.cells #[.int .i64 9,.int .i64 n,.int .i64 m,.bool two,.slice lo xs.length lc,.slice no ns.length nc] 34):=⟨_,rfl⟩
 have D:Hid (D11 w0 w W1 h g r v room l 9 n m two lo xs.length lc no ns.length nc):=do11_start s hs hW1
 have HA:Hid (Arg w0 lo xs lc∧NsW w0 no ns∧ns.length * 56≤140737488351232):=⟨hL,hN,hN1⟩
 have HO:Hid (HP2 Any w0.heap.size w h g r v room l l):=s
 have j1:=hn.1
 have j2:=hn.2
 have j3:=hm.1
 have j4:=hm.2
 clear s hs hL hN hN1 hn hm
 go_enter Try.func10,Try.ntmps10
 go_upto_region 1 with fail
 rw [← hW1]
 clear hW1
 obtain ⟨b0,b1,b2,b3,b4,b5⟩:=D.out.x _ _ _ _ _ D.out.s
 have C0:=rnodes_any (ac:=nc) (HA.out.2.1.same (D.out.k _ _ _ _ _ D.out.s)) HA.out.2.2
 have q2:(E == E)=true:=by simp
 go_upto_region 34 with (first | (go_at_call 41;refine C0.mono ?_;rintro e w2 ⟨nv,rfl,hrow,k2⟩))
 obtain ⟨vo,vc,e⟩:=hrow.shape
 subst e
 have kW:Same0 w2 (w2.alloc (.cells #[.int .i64 (-9),.slice none 0 0,.int .i64 0,.bool false,.int .i64 0] 47)):=(Kept.refl _ w2).alloc _
 have hq:=heap_alloc_new w2 (.cells #[.int .i64 (-9),.slice none 0 0,.int .i64 0,.bool false,.int .i64 0] 47)
 have hbd:(ns.length+1) * 56≤140737488355328:=by have:=HA.out.2.2;omega
 have hza:=ArgT.nil w2
 have HV:Hid (NRow (fun b=>W1.heap.size≤b) W1.heap.size w2 (.slice vo ns.length vc) ns∧Same0 W1 w2):=⟨hrow,k2⟩
 have hzz:=k2.size
 clear C0 k2 b0 b1 b2 b3 b4 b5
 go_upto_region 35 with (first | (at_builtin;refine wpList_nd rfl _ _ rfl W1.heap.size ns _ rfl kW hrow (-9,[],0,false,0) none 0 _ rfl hq hza (fun b e=>by cases e) hzz hbd ?_;intro g4 cap4 w4 hr4 hk4 hor))
 have K4:Same0 W1 w4:=NRow.onto HV.out.2 HV.out.1 hk4
 have r4:NRow (fun b=>W1.heap.size≤b∧b<w4.heap.size) W1.heap.size w4 (.slice (some ⟨g4,0,none⟩) (ns.length+1) cap4) (ns ++ [(-9,[],0,false,0)]):=hr4.mono (fun k h1 h2=>⟨h2,h1⟩)
 have hold:h<W1.heap.size∧g<W1.heap.size∧r<W1.heap.size∧∀ k,v.ownBlock=some k→k<W1.heap.size:=⟨(D.out.s.s.own (.inl rfl)).2.2,(D.out.s.s.own (.inr (.inl rfl))).2.2,(D.out.s.s.own (.inr (.inr (.inl rfl)))).2.2,fun k e=>(D.out.s.s.own (.inr (.inr (.inr e)))).2.2⟩
 obtain ⟨-,m4,hcap,hI4,hlo4⟩:=r4.mem'
 have S4:=St2.between D.out.s.s K4
 have hmx:ns.length≤maxLen:=by unfold maxLen;have:=HA.out.2.2;omega
 have C1:=PM cap4 S4.s.p (NsM.apart m4.pre (fun _ a e=>by cases e;show g4≠g;omega) S4.s.p.notg) hmx
 have HD:Hid (∀ ww,St2 (fun k=>k<W1.heap.size∨w4.heap.size≤k) w0.heap.size W1 h g r v room ww v l1 l→Calls Try.prog 43 #[.pointer (some ⟨r,0,none⟩),.slice no ns.length nc] ww fun e w' => e=.returned (.int .i64 E)∧RQ (fun k=>k<W1.heap.size∨w4.heap.size≤k) r room v l1 ww w'):=fun ww q=>DM nc q.s.q (HA.out.2.1.same (D.out.k _ _ _ _ _ q)) hmx
 have H4:Hid (St2 (fun k=>k<W1.heap.size∨w4.heap.size≤k) w0.heap.size W1 h g r v room w4 v l l∧NRow (fun b=>W1.heap.size≤b∧b<w4.heap.size) W1.heap.size w4 (.slice (some ⟨g4,0,none⟩) (ns.length+1) cap4) (ns ++ [(-9,[],0,false,0)])∧(h<W1.heap.size∧g<W1.heap.size∧r<W1.heap.size∧∀ k,v.ownBlock=some k→k<W1.heap.size)∧W1.heap.size≤g4):=⟨S4,r4,hold,hlo4⟩
 have HS:Hid (∀ ww,NsM (fun b=>W1.heap.size≤b∧b<w4.heap.size) ww (some ⟨g4,0,none⟩) ns→Same0 w0 ww→Calls Try.prog 40 #[.slice (some ⟨g4,0,none⟩) ns.length cap4,.slice no ns.length nc] ww fun e w' => e=.returned (.bool true)∧Same0 ww w'):=fun ww q1 q2=>by
  have:=sameNodes_any (ac:=cap4) (bc:=nc) q1.weak (HA.out.2.1.same q2) hmx
  rw [eqL_self] at this
  exact this
 have HMX:Hid (ns.length * 56≤140737488351232):=HA.out.2.2
 have hc0:¬ cap4=0:=by omega
 obtain ⟨b0,b1,b2,b3,b4,b5⟩:=D.out.x _ _ _ _ _ S4
 clear hr4 hk4 hor HV hzz hza hq kW hbd hrow PM DM m4 hI4 hlo4 S4 r4 K4 hold
 have HBX:Hid (∀ B ww vv lp lr,St2 B w0.heap.size W1 h g r v room ww vv lp lr→ww.cell? ⟨w.heap.size,5,none⟩=some (.slice no ns.length nc)):=fun B ww vv lp lr q=>(D.out.x _ _ _ _ _ q).2.2.2.2.2
 obtain ⟨N,hN⟩:∃ N,N=ns.length:=⟨_,rfl⟩
 have HNH:Hid (N=ns.length):=hN
 rw [← hN] at C1 hcap hmx b5 HBX HS HD ⊢
 have i1:(0:Int)≤(N:Int):=by omega
 have i2:(N:Int)≤(cap4:Int):=by omega
 have i4:(N:Int)+1≤2513169434844:=by have:=HMX.out;omega
 have i6:N≤cap4:=by omega
 have i7:IntKind.i64.wrap ((N:Int)+1-1)=(N:Int):=by rw [show (N:Int)+1-1=(N:Int) by omega];exact i64_keep (by omega) (by omega)
 have i8:IntKind.i64.wrap (N:Int)=(N:Int):=i64_keep (by omega) (by omega)
 have i9:((N:Int)).toNat=N:=by omega
 have i10:(N:Int)+1-1=(N:Int):=by omega
 have i11:(N:Int)<(N:Int)+1:=by omega
 clear hN hmx
 go_upto_region 36 with (first | (go_at_call 42;refine C1.mono ?_;rintro e w5 ⟨rfl,h5⟩))
 have S5:=H4.out.1.prog h5
 have r5:=H4.out.2.1.kept h5.2 (fun k e f=>by
  have e' : g4=k:=Option.some.inj e
  have:=H4.out.2.2.2
  have:=H4.out.2.2.1.1
  have:=H4.out.2.2.1.2.1
  rcases f with f | f <;> omega) (fun k _ f=>by
  rcases f with f | f
  ·rw [f];exact H4.out.1.s.p.hI
  ·rw [f];exact H4.out.1.s.p.notg)
 have H5:Hid (St2 (fun k=>k<W1.heap.size∨w4.heap.size≤k) w0.heap.size W1 h g r v room w5 v l1 l∧NRow (fun b=>W1.heap.size≤b∧b<w4.heap.size) W1.heap.size w5 (.slice (some ⟨g4,0,none⟩) (ns.length+1) cap4) (ns ++ [(-9,[],0,false,0)])∧w4.heap.size≤w5.heap.size):=⟨S5,r5,h5.2.size⟩
 have C2:=HD.out w5 S5
 clear b0 b1 b2 b3 b4 b5
 have b5:=HBX.out _ _ _ _ _ S5
 clear C1 h5 S5 r5 HD
 go_upto_region 37 with (first | (go_at_call 43;refine C2.mono ?_;rintro e w6 ⟨rfl,h6⟩))
 obtain ⟨v6,S6,o6,k6⟩:=H5.out.1.doc h6
 have r6:=H5.out.2.1.kept k6 (fun k e f=>by
  have e' : g4=k:=Option.some.inj e
  have:=H4.out.2.2.2
  rcases f with f | f
  ·have:=H4.out.2.2.1.2.2.1;omega
  ·have:=H4.out.2.2.1.2.2.2 k f;omega) (fun k _ f=>by
  rcases f with f | f
  ·rw [f];exact H5.out.1.s.q.noti
  ·exact (H5.out.1.s.q.row.block f).2.2)
 have H6:Hid (St2 (fun k=>k<W1.heap.size∨w4.heap.size≤k) w0.heap.size W1 h g r v room w6 v6 l1 l1∧NRow (fun b=>W1.heap.size≤b∧b<w4.heap.size) W1.heap.size w6 (.slice (some ⟨g4,0,none⟩) (ns.length+1) cap4) (ns ++ [(-9,[],0,false,0)])∧∀ k,v6.ownBlock=some k→v.ownBlock=some k∨w4.heap.size≤k):=⟨S6,r6,fun k e=>(o6 k e).imp id (fun q=>Nat.le_trans H5.out.2.2 q)⟩
 have KD:Same0 w6 w6.drew:=(Kept.refl _ _).drew
 have C3:=HS.out w6.drew (r6.mem'.2.1.pre.same KD) ((D.out.k _ _ _ _ _ S6).trans' KD)
 have HBY:Hid (∀ ww,Same0 w6 ww→ww.cell? ⟨w.heap.size,5,none⟩=some (.slice no N nc)):=fun ww hk=>HBX.out _ _ _ _ _ (H6.out.1.same hk)
 have cc0:=HBY.out w6.drew KD
 clear b5 C2 h6 S6 o6 k6 r6 HS HBX
 go_upto_region 37 with fail
 go_region_held3 (fun w' => w'.cell? ⟨w.heap.size,5,none⟩=some (.slice no N nc)) (with_reducible first | exact cc0 | exact cc1) (first
  | (go_at_call 40;refine C3.mono ?_;rintro e w7 ⟨rfl,k7⟩;have cc1:=HBY.out w7 (KD.trans' k7)))
 have KK:Same0 w6 w7:=KD.trans' k7
 have r7:=H6.out.2.1.same KK
 have C4:=spoil11_any (ao:=some ⟨g4,0,none⟩) (N:=ns.length+1) (by have:=NRow.nsr (no:=some ⟨g4,0,none⟩) (nc:=cap4) (l:=ns ++ [(-9,[],0,false,0)]) (by simpa using r7);simpa using this) cap4 (by unfold maxLen;have:=HMX.out;omega) (-7)
 rw [← HNH.out] at C4
 have FF:Hid (∀ w8,WK (fun k=>(W1.heap.size≤k∧k<w4.heap.size)∧¬ NotI w7 k) w7 w8→DoT w0.heap.size w h g r v room w8∧w8.cell? ⟨g4,N * 5,none⟩=some (.int .i64 (-9))):=fun w8 hk=>by
  refine ⟨D.out.f _ _ _ _ ((H6.out.1.same KK).amid hk.k (fun k e=>e.1) H6.out.2.2 (.inr H4.out.2.2.1)),?_⟩
  have m7:=r7.mem'
  have:=m7.2.1.last
  rw [HNH.out]
  exact (hk.k.cell (p:=⟨g4,ns.length * 5,none⟩) (by rcases m7.2.1 with e | ⟨b,off,e,hlt,_⟩; (simp at e); (cases e;exact hlt)) (fun q=>q.2 m7.2.2.2.1)).trans this
 clear C3 HBY cc0 KD k7 KK r7
 go_wp2_with (first | (go_at_call 32;refine C4.mono ?_;rintro e w8 ⟨⟨u8,rfl⟩,k8⟩;obtain ⟨F8,c8⟩:=FF.out _ k8))
 go_ret
 exact ⟨by first | rfl | simp,F8⟩
end Go.Proofs.Ytmloedlkoijfbaa
namespace Go.Proofs.Ytmloedlkoijfbaa
set_option maxRecDepth 100000
set_option linter.unusedVariables false
open Go.RowKit Go.Deep
section
variable {H : Type} {enc : TypeId × Value → H} {w : World} {spare : Nat → Bool} {held : Bool}
theorem weightsAll_mem11 {P:Program} {e:TypeId} {l:List (DataW H)} {d:DataW H} (h:d∈l) {n:Nat} (hn:n∈d.weights P e):n∈DataW.weightsAll P e l:=by
 induction l with
 | nil=>cases h
 | cons x r ih=>
  simp only [DataW.weightsAll,List.mem_append]
  rcases List.mem_cons.1 h with q | q
  ·subst q;exact .inl hn
  ·exact .inr (ih q)
set_option maxRecDepth 100000 in
theorem open_elems11 {t e c fuel:Nat} {ao:Option Addr} {len cap:Nat} {x:DataW H × List MemPlace} (ht:Try.prog.underlying t=some (.slice e)) (hc:Try.prog.cellsOf e=c) (h0:0<c) (h:DataW.trod enc Try.prog w 0 spare held fuel t [.slice ao len cap]=some x) (hw:∀ n∈x.1.weights Try.prog t,n≤reachBytes) :
  (ao=none∧len=0∧cap=0)∨∃ a,ao=some a∧len≤cap∧cap≤maxLen∧len * Try.prog.bytesOf e≤reachBytes∧∀ i,i<len→a=⟨a.block,a.off,none⟩∧a.block<w.heap.size∧∃ cs n y,cs.length=c∧(∀ j,j<c→w.cell? ⟨a.block,a.off+i * c+j,none⟩=cs[j]?)∧DataW.trod enc Try.prog w 0 spare held n e cs=some y∧∀ n∈y.1.weights Try.prog e,n≤reachBytes:=by
 rcases open_slice ht h with ⟨hcs,_⟩ | ⟨a,len', cap', m,n,D,Pl,hcs,_,hl,hm,hmm,rfl,hx⟩
 ·simp at hcs;exact .inl ⟨hcs.1,hcs.2.1,hcs.2.2⟩
 ·simp at hcs
  obtain ⟨rfl,rfl,rfl⟩:=hcs
  have hb:len * Try.prog.bytesOf e≤reachBytes:=by
   have:=hw ((((List.range len).map D).length+((List.range (m-len)).map fun j=>D (len+j)).length) * Try.prog.bytesOf e) (by simp [DataW.weights,ht])
   refine Nat.le_trans (Nat.mul_le_mul_right _ ?_) this
   simp
  refine .inr ⟨a,rfl,hl,hm,hb,fun i hi=>?_⟩
  have hmi:i<m:=by rw [hmm];split <;> omega
  have hm0:0<m:=by omega
  obtain ⟨cs0,g0,_⟩:=hx 0 hm0
  rw [hc] at g0
  obtain ⟨_,gl,gc⟩:=World.cells?_some g0
  have hsp:a.spot=none:=by
   have:=gc 0 h0
   have hv:cs0[0]? = some (cs0[0]'(by omega)):=List.getElem?_eq_getElem (by omega)
   rw [hv] at this
   simp [Addr.add] at this
   exact World.cell?_spot this
  have hlt:a.block<w.heap.size:=World.cells?_block (by simpa [Addr.add] using g0) h0
  have ea:a=⟨a.block,a.off,none⟩:=by cases a;simp_all
  obtain ⟨cs,g1,g2⟩:=hx i hmi
  rw [hc] at g1
  obtain ⟨_,gl1,gc1⟩:=World.cells?_some g1
  refine ⟨ea,hlt,cs,n,_,gl1,fun j hj=>?_,g2,fun k hk=>hw k ?_⟩
  ·rw [← gc1 j hj,add_add]
   congr 1
   unfold Addr.add
   split
   ·rw [ea];simp;omega
   ·simp
  ·simp only [DataW.weights,ht,List.mem_cons,List.mem_append]
   exact .inr (.inl (weightsAll_mem11 (List.mem_map.2 ⟨i,by simpa using hi,rfl⟩) hk))
end
theorem cells_node:Try.prog.cellsOf 47=5:=by kernel_rfl
theorem bytes_node:Try.prog.bytesOf 47=56:=by kernel_rfl
theorem cells_boolT:Try.prog.cellsOf 4=1:=by kernel_rfl
theorem cells_intsT:Try.prog.cellsOf 31=1:=by kernel_rfl
def NdI (x:Nd):Prop:=I64 x.1∧(∀ z∈x.2.1,I64 z)∧I64 x.2.2.1∧I64 x.2.2.2.2
section
variable {H : Type} {enc : TypeId × Value → H} {w : World} {spare : Nat → Bool} {held : Bool}
theorem trod_node {fuel:Nat} {cs:List Value} {x:DataW H × List MemPlace} (hl:cs.length=5) (h:DataW.trod enc Try.prog w 0 spare held fuel 47 cs=some x) (hw:∀ n∈x.1.weights Try.prog 47,n≤reachBytes):∃ (y:Nd) (xo:Option Addr) (xc:Nat),NdI y∧Arg w xo y.2.1 xc∧cs=[.int .i64 y.1,.slice xo y.2.1.length xc,.int .i64 y.2.2.1,.bool y.2.2.2.1,.int .i64 y.2.2.2.2]:=by
 obtain ⟨y0,y1,y2,y3,y4,n', hyd,hl', g0,g1,g2,g3,g4⟩:=trod_struct5 Try.underlying47 h
 match cs,hl with
 | [c0,c1,c2,c3,c4],_=>
  simp only [cells_int,cells_boolT,cells_intsT,List.drop_zero,List.take_succ_cons,List.take_zero,List.drop_succ_cons] at g0 g1 g2 g3 g4
  obtain ⟨z0,e0,_,w0⟩:=DataW.trod_int Try.underlying3 g0
  obtain ⟨z2,e2,_,w2⟩:=DataW.trod_int Try.underlying3 g2
  obtain ⟨z3,e3,_⟩:=DataW.trod_bool Try.underlying4 g3
  obtain ⟨z4,e4,_,w4⟩:=DataW.trod_int Try.underlying3 g4
  have hyw1:∀ n∈y1.1.weights Try.prog 31,n≤reachBytes:=fun n hn=>hw n (by
   rw [hyd]
   simp only [DataW.weights,Try.underlying47]
   simp [DataW.weightsEach,hn])
  obtain ⟨xo,len,xc,e1⟩:=slice_one Try.underlying31 g1
  subst e1
  obtain ⟨xs,hxl,hxa,hxi⟩:=open_ints64 Try.underlying31 g1 hyw1
  subst hxl
  simp only [List.cons.injEq,and_true] at e0 e2 e3 e4
  subst e0 e2 e3 e4
  exact ⟨(z0,xs,z2,z3,z4),xo,xc,⟨i64_wf w0,hxi,i64_wf w2,i64_wf w4⟩,hxa,rfl⟩
theorem open_nodes {fuel:Nat} {ao:Option Addr} {len cap:Nat} {x:DataW H × List MemPlace} (h:DataW.trod enc Try.prog w 0 spare held fuel 32 [.slice ao len cap]=some x) (hw:∀ n∈x.1.weights Try.prog 32,n≤reachBytes) :
  ∃ l:List Nd,l.length=len∧NsW w ao l∧len * 56≤140737488351232∧len≤cap∧(ao=none→len=0∧cap=0)∧∀ y∈l,NdI y:=by
 rcases open_elems11 Try.underlying32 cells_node (by omega) h hw with ⟨rfl,rfl,rfl⟩ | ⟨a,rfl,hl1,hl2,hsz,hall⟩
 ·exact ⟨[],rfl,.inl rfl,by omega,Nat.le_refl _,fun _=>⟨rfl,rfl⟩,by simp⟩
 ·rw [bytes_node] at hsz
  have each:∀ i,i<len→∃ y:Nd,NdI y∧∃ xo xc,w.cell? ⟨a.block,a.off+i * 5,none⟩=some (.int .i64 y.1)∧w.cell? ⟨a.block,a.off+i * 5+1,none⟩=some (.slice xo y.2.1.length xc)∧w.cell? ⟨a.block,a.off+i * 5+2,none⟩=some (.int .i64 y.2.2.1)∧w.cell? ⟨a.block,a.off+i * 5+3,none⟩=some (.bool y.2.2.2.1)∧w.cell? ⟨a.block,a.off+i * 5+4,none⟩=some (.int .i64 y.2.2.2.2)∧Arg w xo y.2.1 xc:=by
   intro i hi
   obtain ⟨_,_,cs,n,y,hl,hcell,hy,hyw⟩:=hall i hi
   obtain ⟨z,xo,xc,h1,h2,rfl⟩:=trod_node hl hy hyw
   exact ⟨z,h1,xo,xc,by simpa using hcell 0 (by omega),by simpa using hcell 1 (by omega),by simpa using hcell 2 (by omega),by simpa using hcell 3 (by omega),by simpa using hcell 4 (by omega),h2⟩
  obtain ⟨f,hf⟩:=Classical.axiomOfChoice (fun i:Fin len=>each i i.2)
  refine ⟨List.ofFn f,by simp,?_,by simpa [reachBytes] using hsz,hl1,(fun e=>by cases e),fun y hy=>?_⟩
  ·by_cases h0:len=0
   ·subst h0;exact .inl (by simp)
   ·obtain ⟨ea,hlt,_⟩:=hall 0 (by omega)
    refine .inr ⟨a.block,a.off,by rw [← ea],hlt,fun i hi=>?_⟩
    have hi' : i<len:=by simpa using hi
    simpa using (hf ⟨i,hi'⟩).2
  ·obtain ⟨i,rfl⟩:=List.mem_ofFn.1 hy
   exact (hf i).1
end
theorem cells_op11:Try.prog.cellsOf 34=6:=by kernel_rfl
theorem cells_nodesT:Try.prog.cellsOf 32=1:=by kernel_rfl
structure Op11 where
 kind:Int
 n:Int
 m:Int
 two:Bool
 l:List Int
 ns:List Nd
structure Op11.Ok (x:Op11):Prop where
 k:I64 x.kind
 n:I64 x.n
 m:I64 x.m
 l:∀ z∈x.l,I64 z
 ns:∀ y∈x.ns,NdI y
def OpAt (w:World) (b off:Nat) (x:Op11):Prop:=∃ lo lc no nc,w.cell? ⟨b,off,none⟩=some (.int .i64 x.kind)∧w.cell? ⟨b,off+1,none⟩=some (.int .i64 x.n)∧w.cell? ⟨b,off+2,none⟩=some (.int .i64 x.m)∧w.cell? ⟨b,off+3,none⟩=some (.bool x.two)∧w.cell? ⟨b,off+4,none⟩=some (.slice lo x.l.length lc)∧w.cell? ⟨b,off+5,none⟩=some (.slice no x.ns.length nc)∧Arg w lo x.l lc∧NsW w no x.ns∧x.ns.length * 56≤140737488351232∧x.ns.length≤nc∧(no=none→x.ns.length=0∧nc=0)
def OpsAt (w:World) (ao:Option Addr) (l:List Op11):Prop:=l=[]∨∃ b off,ao=some ⟨b,off,none⟩∧b<w.heap.size∧∀ i (hi:i<l.length),OpAt w b (off+i * 6) l[i]
section
variable {H : Type} {enc : TypeId × Value → H} {w : World} {spare : Nat → Bool} {held : Bool}
theorem trod_struct6 {P:Program} {base:Nat} {t:TypeId} {f0 f1 f2 f3 f4 f5:Field} {fuel:Nat} {cs:List Value} {x:DataW H × List MemPlace} (ht:P.underlying t=some (.struct #[f0,f1,f2,f3,f4,f5])) (h:DataW.trod enc P w base spare held fuel t cs=some x) :
  ∃ y0 y1 y2 y3 y4 y5 n,x.1=.agg [y0.1,y1.1,y2.1,y3.1,y4.1,y5.1]∧cs.length=P.cellsOf t∧DataW.trod enc P w base spare held n f0.type ((cs.drop f0.offset).take (P.cellsOf f0.type))=some y0 ∧
   DataW.trod enc P w base spare held n f1.type ((cs.drop f1.offset).take (P.cellsOf f1.type))=some y1∧DataW.trod enc P w base spare held n f2.type ((cs.drop f2.offset).take (P.cellsOf f2.type))=some y2 ∧
   DataW.trod enc P w base spare held n f3.type ((cs.drop f3.offset).take (P.cellsOf f3.type))=some y3∧DataW.trod enc P w base spare held n f4.type ((cs.drop f4.offset).take (P.cellsOf f4.type))=some y4∧DataW.trod enc P w base spare held n f5.type ((cs.drop f5.offset).take (P.cellsOf f5.type))=some y5:=by
 obtain ⟨xs,n,_,rfl,hl,hlen,hf⟩:=DataW.trod_struct ht h
 match xs,hlen with
 | [y0,y1,y2,y3,y4,y5],_=>exact ⟨y0,y1,y2,y3,y4,y5,n,by simp,hl,by simpa using hf 0 f0 rfl,by simpa using hf 1 f1 rfl,by simpa using hf 2 f2 rfl,by simpa using hf 3 f3 rfl,by simpa using hf 4 f4 rfl,by simpa using hf 5 f5 rfl⟩
theorem open_ops11 {fuel:Nat} {ao:Option Addr} {len cap:Nat} {x:DataW H × List MemPlace} (h:DataW.trod enc Try.prog w 0 spare held fuel 22 [.slice ao len cap]=some x) (hw:∀ n∈x.1.weights Try.prog 22,n≤reachBytes) :
  ∃ l:List Op11,l.length=len∧OpsAt w ao l∧len≤maxLen∧∀ y∈l,y.Ok:=by
 rcases open_elems11 Try.underlying22 cells_op11 (by omega) h hw with ⟨rfl,rfl,rfl⟩ | ⟨a,rfl,hl1,hl2,hsz,hall⟩
 ·exact ⟨[],rfl,.inl rfl,Nat.zero_le _,by simp⟩
 ·have each:∀ i,i<len→∃ y:Op11,y.Ok∧OpAt w a.block (a.off+i * 6) y:=by
   intro i hi
   obtain ⟨_,_,cs,n,y,hl,hcell,hy,hyw⟩:=hall i hi
   obtain ⟨y0,y1,y2,y3,y4,y5,n', hyd,hl', g0,g1,g2,g3,g4,g5⟩:=trod_struct6 Try.underlying34 hy
   match cs,hl with
   | [c0,c1,c2,c3,c4,c5],_=>
    simp only [cells_int,cells_boolT,cells_intsT,cells_nodesT,List.drop_zero,List.take_succ_cons,List.take_zero,List.drop_succ_cons] at g0 g1 g2 g3 g4 g5
    obtain ⟨z0,e0,_,w0⟩:=DataW.trod_int Try.underlying3 g0
    obtain ⟨z1,e1,_,w1⟩:=DataW.trod_int Try.underlying3 g1
    obtain ⟨z2,e2,_,w2⟩:=DataW.trod_int Try.underlying3 g2
    obtain ⟨z3,e3,_⟩:=DataW.trod_bool Try.underlying4 g3
    have hyw4:∀ n∈y4.1.weights Try.prog 31,n≤reachBytes:=fun n hn=>hyw n (by
     rw [hyd]
     simp only [DataW.weights,Try.underlying34]
     simp [DataW.weightsEach,hn])
    have hyw5:∀ n∈y5.1.weights Try.prog 32,n≤reachBytes:=fun n hn=>hyw n (by
     rw [hyd]
     simp only [DataW.weights,Try.underlying34]
     simp [DataW.weightsEach,hn])
    obtain ⟨lo,ll,lc,e4⟩:=slice_one Try.underlying31 g4
    subst e4
    obtain ⟨xs,hxl,hxa,hxi⟩:=open_ints64 Try.underlying31 g4 hyw4
    subst hxl
    obtain ⟨no,nl,nc,e5⟩:=slice_one Try.underlying32 g5
    subst e5
    obtain ⟨ns,hnl,hna,hns,hnc,hnn,hni⟩:=open_nodes g5 hyw5
    subst hnl
    simp only [List.cons.injEq,and_true] at e0 e1 e2 e3
    subst e0 e1 e2 e3
    exact ⟨⟨z0,z1,z2,z3,xs,ns⟩,⟨i64_wf w0,i64_wf w1,i64_wf w2,hxi,hni⟩,lo,lc,no,nc,by simpa using hcell 0 (by omega),by simpa using hcell 1 (by omega),by simpa using hcell 2 (by omega),by simpa using hcell 3 (by omega),by simpa using hcell 4 (by omega),by simpa using hcell 5 (by omega),hxa,hna,hns,hnc,hnn⟩
  obtain ⟨f,hf⟩:=Classical.axiomOfChoice (fun i:Fin len=>each i i.2)
  refine ⟨List.ofFn f,by simp,?_,by omega,fun y hy=>?_⟩
  ·by_cases h0:len=0
   ·subst h0;exact .inl (by simp)
   ·obtain ⟨ea,hlt,_⟩:=hall 0 (by omega)
    refine .inr ⟨a.block,a.off,by rw [← ea],hlt,fun i hi=>?_⟩
    have hi' : i<len:=by simpa using hi
    simpa using (hf ⟨i,hi'⟩).2
  ·obtain ⟨i,rfl⟩:=List.mem_ofFn.1 hy
   exact (hf i).1
end
end Go.Proofs.Ytmloedlkoijfbaa
namespace Go.Proofs.Ytmloedlkoijfbaa
set_option maxRecDepth 100000
set_option linter.unusedVariables false
open Go.RowKit
theorem do11_any {w0 w:World} {h g r:Nat} {v:Value} {room:Nat} {l:List Nd} (s:HP2 Any w0.heap.size w h g r v room l l) (hs:Same0 w0 w) (K n m:Int) (hn:I64 n) (hm:I64 m) (two:Bool) {lo:Option Addr} {xs:List Int} {lc:Nat} (hL:Arg w0 lo xs lc) {no:Option Addr} {ns:List Nd} {nc:Nat} (hN:NsW w0 no ns) (hN1:ns.length * 56≤140737488351232) :
  Calls Try.prog 10 #[.pointer (some ⟨h,0,none⟩),.pointer (some ⟨r,0,none⟩),opV11 K n m two lo xs.length lc no ns.length nc] w fun e w' => e=.returned (.bool true)∧DoT w0.heap.size w h g r v room w' := by
 by_cases e1:K=1
 ·subst e1;exact do11_make s hs n m hn hm two hL hN hN1
 by_cases e2:K=2
 ·subst e2;exact do11_at s hs n m hn hm two hL hN hN1
 by_cases e3:K=3
 ·subst e3;exact do11_res s hs n m hn hm two hL hN hN1
 by_cases e4:K=4
 ·subst e4;exact do11_point s hs n m hn hm two hL hN hN1
 by_cases e5:K=5
 ·subst e5;exact do11_mark s hs n m hn hm two hL hN hN1
 by_cases e6:K=6
 ·subst e6;exact do11_clear s hs n m hn hm two hL hN hN1
 by_cases e7:K=7
 ·subst e7;exact do11_all s hs n m hn hm two hL hN hN1
 by_cases e8:K=8
 ·subst e8;exact do11_room s hs n m hn hm two hL hN hN1
 by_cases e9:K=9
 ·subst e9;exact do11_refill s hs n m hn hm two hL hN hN1
 exact do11_none s hs (fun j h1 h2 e=>by omega) n m hn hm two hL hN hN1
def PrH (b0:Nat) (w:World) (pa px:Value) (na:Bool) (O:Nat→Prop):Prop:=
 (∀ k,O k→k<w.heap.size)∧((na=true∧pa=.pointer none∧px=.pointer none)∨(na=false∧∃ h g r v room l,pa=.pointer (some ⟨h,0,none⟩)∧px=.pointer (some ⟨r,0,none⟩)∧HP2 Any b0 w h g r v room l l∧∀ k,OwnH h g r v k→O k))
theorem PrH.kept {b0:Nat} {w w' : World} {pa px:Value} {na:Bool} {O S:Nat→Prop} (s:PrH b0 w pa px na O) (hk:Kept S w w') (h1:∀ k,O k→¬ S k) (h2:∀ k,S k→NotI w k):PrH b0 w' pa px na O:=
 ⟨fun k e=>Nat.lt_of_lt_of_le (s.1 k e) hk.size,s.2.imp id (fun ⟨e,h,g,r,v,room,l,e1,e2,p,q⟩=>⟨e,h,g,r,v,room,l,e1,e2,p.kept hk (fun k ok=>h1 k (q k ok)) (fun k _ e=>h2 k e),q⟩)⟩
def TwoH (w0 w:World) (pa px pb py:Value) (na nb:Bool):Prop:=∃ O O', PrH w0.heap.size w pa px na O∧PrH w0.heap.size w pb py nb O' ∧ (∀ k,O k→¬ O' k)∧Same0 w0 w
section
variable {w0 w w' : World} {pa px pb py : Value} {na nb : Bool}
theorem TwoH.swap (s:TwoH w0 w pa px pb py na nb):TwoH w0 w pb py pa px nb na:=by
 obtain ⟨O,O', h1,h2,h3,h4⟩:=s
 exact ⟨O', O,h2,h1,fun k e f=>h3 k f e,h4⟩
theorem TwoH.sm (s:TwoH w0 w pa px pb py na nb):Same0 w0 w:=by obtain ⟨_,_,_,_,_,h⟩:=s;exact h
theorem TwoH.first (s:TwoH w0 w pa px pb py na nb) (hna:na=false):∃ h g r v room l,pa=.pointer (some ⟨h,0,none⟩)∧px=.pointer (some ⟨r,0,none⟩)∧HP2 Any w0.heap.size w h g r v room l l∧∀ w', DoT w0.heap.size w h g r v room w' → TwoH w0 w' pa px pb py na nb:=by
 obtain ⟨O,O', ⟨b1,h1⟩,h2,h3,h4⟩:=s
 rcases h1 with ⟨e,_⟩ | ⟨e,h,g,r,v,room,l,e1,e2,p,q⟩
 ·rw [hna] at e;cases e
 ·refine ⟨h,g,r,v,room,l,e1,e2,p,fun w' ⟨v', l', t⟩=>⟨fun k=>O k∨(w.heap.size≤k∧k<w'.heap.size),O', ⟨fun k e=>?_,.inr ⟨e,h,g,r,v', room,l', e1,e2,t.s,fun k ok=>?_⟩⟩,h2.kept t.k (fun k e f=>h3 k (q k f) e) (fun k f=>(p.own f).1),fun k e f=>?_,h4.trans t.k (fun i hi e=>by have:=(p.own e).2.1;omega)⟩⟩
  ·rcases e with e | e
   ·exact Nat.lt_of_lt_of_le (b1 k e) t.k.size
   ·exact e.2
  ·rcases t.o k ok with e | e
   ·exact .inl (q k e)
   ·exact .inr ⟨e,(t.s.own ok).2.2⟩
  ·rcases e with e | e
   ·exact h3 k e f
   ·have:=h2.1 k f;omega
theorem TwoH.none (s:TwoH w0 w pa px pb py na nb) (hna:na=true):pa=.pointer none∧px=.pointer none:=by
 obtain ⟨O,O', ⟨b1,h1⟩,h2,h3,h4⟩:=s
 rcases h1 with ⟨_,e⟩ | ⟨e,_⟩
 ·exact e
 ·rw [hna] at e;cases e
end
theorem nil_heap {w0 w:World} {pa px pb py:Value} {na nb:Bool} (s:TwoH w0 w pa px pb py na nb) (ww:World):(binOp .eql 24 pa (.pointer Option.none)).run Try.prog ww=.ok (.bool na) ww:=by
 cases na
 ·obtain ⟨h,g,r,v,room,l,rfl,rfl,_⟩:=s.first rfl;kernel_rfl
 ·obtain ⟨rfl,rfl⟩:=s.none rfl;kernel_rfl
theorem nil_ref {w0 w:World} {pa px pb py:Value} {na nb:Bool} (s:TwoH w0 w pa px pb py na nb) (ww:World):(binOp .eql 28 px (.pointer Option.none)).run Try.prog ww=.ok (.bool na) ww:=by
 cases na
 ·obtain ⟨h,g,r,v,room,l,rfl,rfl,_⟩:=s.first rfl;kernel_rfl
 ·obtain ⟨rfl,rfl⟩:=s.none rfl;kernel_rfl
def NewP (na:Bool) (n:Nat) (w w' : World) (pa:Value):Prop:=Same0 w w' ∧ ((na=true∧pa=.pointer none)∨(na=false∧∃ h g,pa=.pointer (some ⟨h,0,none⟩)∧HpB (fun _=>False) w' h g n []∧w.heap.size≤h∧w.heap.size≤g))
def NewR (na:Bool) (n:Nat) (w w' : World) (px:Value):Prop:=Same0 w w' ∧ ((na=true∧px=.pointer none)∨(na=false∧∃ r,px=.pointer (some ⟨r,0,none⟩)∧RhB (fun _=>False) w' r n (.slice none 0 0) []∧w.heap.size≤r))
theorem new_two (z:Int):∃ (na:Bool) (n:Nat) (E:Int),(∀ w,Calls Try.prog 8 #[.int .i64 z] w fun e w' => ∃ pa,e=.returned (.tuple #[pa,.int .i64 E])∧NewP na n w w' pa)∧(∀ w,Calls Try.prog 9 #[.int .i64 z] w fun e w' => ∃ px,e=.returned (.tuple #[px,.int .i64 E])∧NewR na n w w' px):=by
 by_cases hz:z<1∨4000<z
 ·exact ⟨true,0,110,fun w=>(hnew_no z w hz).mono (fun e w' ⟨h1,h2⟩=>⟨_,h1,by rw [h2];exact ⟨Kept.refl _ _,.inl ⟨rfl,rfl⟩⟩⟩),fun w=>(rnew_no z w hz).mono (fun e w' ⟨h1,h2⟩=>⟨_,h1,by rw [h2];exact ⟨Kept.refl _ _,.inl ⟨rfl,rfl⟩⟩⟩)⟩
 ·obtain ⟨n,rfl⟩:∃ n:Nat,z=(n:Int):=⟨z.toNat,by omega⟩
  exact ⟨false,n,0,fun w=>(hnew_yes n w (by omega) (by omega)).mono (fun e w' ⟨h,g,h1,h2,h3,h4,h5⟩=>⟨_,h1,h3,.inr ⟨rfl,h,g,rfl,h2,h4,h5⟩⟩),fun w=>(rnew_yes n w (by omega) (by omega)).mono (fun e w' ⟨r,h1,h2,h3,h4⟩=>⟨_,h1,h3,.inr ⟨rfl,r,rfl,h2,h4⟩⟩)⟩
theorem PrH.start {w0 w1 w2 w3 w4 w5:World} {na:Bool} {n:Nat} {pa px:Value} (k1:Same0 w0 w1) (hp:NewP na n w1 w2 pa) (k2:Same0 w2 w3) (hq:NewR na n w3 w4 px) (k4:Same0 w4 w5):PrH w0.heap.size w5 pa px na (fun k=>(w1.heap.size≤k∧k<w2.heap.size)∨(w3.heap.size≤k∧k<w4.heap.size)):=by
 obtain ⟨kp,hp⟩:=hp
 obtain ⟨kq,hq⟩:=hq
 have z1:=k1.size;have z2:=kp.size;have z3:=k2.size;have z4:=kq.size;have z5:=k4.size
 refine ⟨fun k e=>by rcases e with e | e <;> omega,?_⟩
 rcases hp with ⟨rfl,rfl⟩ | ⟨rfl,h,g,rfl,p,l1,l2⟩
 ·rcases hq with ⟨_,rfl⟩ | ⟨e,_⟩
  ·exact .inl ⟨rfl,rfl,rfl⟩
  ·cases e
 ·rcases hq with ⟨e,_⟩ | ⟨_,r,rfl,q,l3⟩
  ·cases e
  ·have lh:=p.ltH;have lg:=p.ltG;have lr:=q.lt
   refine .inr ⟨rfl,h,g,r,.slice none 0 0,n,[],rfl,rfl,⟨((p.mono (fun _ _ _ f=>f.elim)).same (k2.trans' kq)).same k4,(q.to (fun _ _ f=>f.elim)).same k4,⟨by omega,by omega,by omega,fun k e=>(by cases e)⟩,fun e=>(by cases e),fun _ _=>trivial⟩,fun k ok=>?_⟩
   rcases ok with e | e | e | e
   ·left;omega
   ·left;omega
   ·right;omega
   ·cases e
theorem TwoH.start {w0 w1 w2 w3 w4 w5:World} {na nb:Bool} {n m:Nat} {pa px pb py:Value} (k1:Same0 w0 w1) (ha:NewP na n w1 w2 pa) (hb:NewP nb m w2 w3 pb) (hx:NewR na n w3 w4 px) (hy:NewR nb m w4 w5 py):TwoH w0 w5 pa px pb py na nb:=by
 have z2:=ha.1.size;have z3:=hb.1.size;have z4:=hx.1.size;have z5:=hy.1.size
 refine ⟨_,_,PrH.start k1 ha hb.1 hx hy.1,PrH.start (k1.trans' ha.1) hb hx.1 hy (Kept.refl _ _),fun k e f=>by rcases e with e | e <;> rcases f with f | f <;> omega,k1.trans' (ha.1.trans' (hb.1.trans' (hx.1.trans' hy.1)))⟩
end Go.Proofs.Ytmloedlkoijfbaa
namespace Go.Proofs.Ytmloedlkoijfbaa
set_option maxRecDepth 100000
set_option linter.unusedVariables false
open Go.RowKit
attribute [local go_sem ↓] Go.wp_at_zero Go.wp_at_succ
theorem OpsAt.get {w w' : World} {ao:Option Addr} {l:List Op11} (h:OpsAt w ao l) (hk:Same0 w w') {i:Nat} (hi:i<l.length):∃ b off lo lc no nc,ao=some ⟨b,off,none⟩∧w'.cell? ⟨b,off+i * 6,none⟩=some (.int .i64 l[i].kind)∧w'.cell? ⟨b,off+i * 6+1,none⟩=some (.int .i64 l[i].n)∧w'.cell? ⟨b,off+i * 6+2,none⟩=some (.int .i64 l[i].m)∧w'.cell? ⟨b,off+i * 6+3,none⟩=some (.bool l[i].two)∧w'.cell? ⟨b,off+i * 6+4,none⟩=some (.slice lo l[i].l.length lc)∧w'.cell? ⟨b,off+i * 6+5,none⟩=some (.slice no l[i].ns.length nc)∧Arg w lo l[i].l lc∧NsW w no l[i].ns∧l[i].ns.length * 56≤140737488351232:=by
 rcases h with rfl | ⟨b,off,e,hlt,hc⟩
 ·simp at hi
 ·obtain ⟨lo,lc,no,nc,c0,c1,c2,c3,c4,c5,a1,a2,a3,_⟩:=hc i hi
  have t:∀ o,w'.cell? ⟨b,o,none⟩=w.cell? ⟨b,o,none⟩:=fun o=>hk.cell (p:=⟨b,o,none⟩) hlt (fun f=>f)
  exact ⟨b,off,lo,lc,no,nc,e,(t _).trans c0,(t _).trans c1,(t _).trans c2,(t _).trans c3,(t _).trans c4,(t _).trans c5,a1,a2,a3⟩
theorem i64_zero:I64 0:=⟨by omega,by omega⟩
theorem i64_keep2 {z:Int} (h1 : -9223372036854775808≤z) (h2:z<9223372036854775808):IntKind.i64.wrap z=z:=by
 simp [IntKind.wrap,IntKind.bits,IntKind.signed];omega
theorem do11_bare {w0 w:World} {pa px pb py:Value} {nb:Bool} (K:Int) (s:TwoH w0 w pa px pb py false nb):Calls Try.prog 10 #[pa,px,.agg #[.int .i64 K,.int .i64 0,.int .i64 0,.bool false,.slice none 0 0,.slice none 0 0]] w fun e w' => e=.returned (.bool true)∧TwoH w0 w' pa px pb py false nb:=by
 obtain ⟨h,g,r,v,room,l,rfl,rfl,hp,next⟩:=s.first rfl
 exact (do11_any hp s.sm K 0 0 i64_zero i64_zero false (xs:=[]) (arg_nil w0) (ns:=[]) (no:=none) (nc:=0) (.inl rfl) (by simp)).mono (fun e w' ⟨h1,h2⟩=>⟨h1,next w' h2⟩)
set_option maxHeartbeats 8000000 in
theorem hplays_walk {w:World} (z1 z2:Int) {ao:Option Addr} {os:List Op11} (h:OpsAt w ao os) (ac:Nat) (hl:os.length≤maxLen) (hb:∀ o∈os,o.Ok) :
  Calls Try.prog 3 #[.int .i64 z1,.int .i64 z2,.slice ao os.length ac] w fun e w' => e=.returned (.bool true)∧Below w.heap.size w w' := by
 unfold maxLen at hl
 have C0:=awake11_any w
 obtain ⟨na,n1,E1,PA,RA⟩:=new_two z1
 obtain ⟨nb,n2,E2,PBb,RB⟩:=new_two z2
 have HPA:Hid (∀ w,Calls Try.prog 8 #[.int .i64 z1] w fun e w' => ∃ pa,e=.returned (.tuple #[pa,.int .i64 E1])∧NewP na n1 w w' pa):=PA
 have HPB:Hid (∀ w,Calls Try.prog 8 #[.int .i64 z2] w fun e w' => ∃ pa,e=.returned (.tuple #[pa,.int .i64 E2])∧NewP nb n2 w w' pa):=PBb
 have HRA:Hid (∀ w,Calls Try.prog 9 #[.int .i64 z1] w fun e w' => ∃ pa,e=.returned (.tuple #[pa,.int .i64 E1])∧NewR na n1 w w' pa):=RA
 have HRB:Hid (∀ w,Calls Try.prog 9 #[.int .i64 z2] w fun e w' => ∃ pa,e=.returned (.tuple #[pa,.int .i64 E2])∧NewR nb n2 w w' pa):=RB
 have HB:Hid (∀ ww,Same0 w ww→Below w.heap.size w ww):=fun ww hk=>Kept.below hk (Nat.le_refl _) (fun _ _ f=>f)
 have HO:Hid (OpsAt w ao os∧∀ o∈os,o.Ok):=⟨h,hb⟩
 have q1:(E1 != E1)=false:=by simp
 have q2:(E2 != E2)=false:=by simp
 have q3:(na != na)=false:=by simp
 have q4:(nb != nb)=false:=by simp
 clear h hb PA PBb RA RB
 go_enter Try.func3,Try.ntmps3
 go_upto_region 2 with (first | (go_at_call 7;refine C0.mono ?_;rintro e w1 ⟨rfl,k1⟩))
 have C1:=HPA.out w1
 clear C0
 go_upto_region 3 with (first | (go_at_call 8;refine C1.mono ?_;rintro e w2 ⟨pa,rfl,p2⟩))
 have C2:=HPB.out w2
 clear C1
 go_upto_region 4 with (first | (go_at_call 8;refine C2.mono ?_;rintro e w3 ⟨pb,rfl,p3⟩))
 have C3:=HRA.out w3
 clear C2
 go_upto_region 5 with (first | (go_at_call 9;refine C3.mono ?_;rintro e w4 ⟨px,rfl,p4⟩))
 have C4:=HRB.out w4
 clear C3
 go_upto_region 6 with (first | (go_at_call 9;refine C4.mono ?_;rintro e w5 ⟨py,rfl,p5⟩))
 have H5:Hid (TwoH w w5 pa px pb py na nb):=TwoH.start k1 p2 p3 p4 p5
 clear C4 k1 p2 p3 p4 p5 HPA HPB HRA HRB
 have t1:=nil_heap H5.out
 have t2:=nil_ref H5.out
 have t3:=nil_heap H5.out.swap
 have t4:=nil_ref H5.out.swap
 go_cut [68] from 43 to 68 (fun s68 wc=>s68=.bool false∧wc=w5)
 case first=>
  cases na
  ·obtain ⟨h,g,r,v,room,l,ea,ex, -, -⟩:=H5.out.first rfl
   subst ea ex
   cases nb
   ·obtain ⟨h', g', r', v', room', l', eb,ey, -, -⟩:=H5.out.swap.first rfl
    subst eb ey
    go_wp2
    go_meet
    case rel=>exact ⟨rfl,rfl⟩
   ·obtain ⟨eb,ey⟩:=H5.out.swap.none rfl
    subst eb ey
    go_wp2
    go_meet
    case rel=>exact ⟨rfl,rfl⟩
  ·obtain ⟨ea,ex⟩:=H5.out.none rfl
   subst ea ex
   cases nb
   ·obtain ⟨h', g', r', v', room', l', eb,ey, -, -⟩:=H5.out.swap.first rfl
    subst eb ey
    go_wp2
    go_meet
    case rel=>exact ⟨rfl,rfl⟩
   ·obtain ⟨eb,ey⟩:=H5.out.swap.none rfl
    subst eb ey
    go_wp2
    go_meet
    case rel=>exact ⟨rfl,rfl⟩
 case rest=>
 obtain ⟨rfl,e⟩:=hcut
 have e:=e.symm
 subst e
 go_upto_region 9 with fail
 go_loopw [16] (fun i wr=>∃ k:Nat,i=.int .i64 (k:Int)∧k≤os.length∧Hid (TwoH w wr pa px pb py na nb)) (fun i _=>os.length-(intOf i).toNat)
 case atStart=>exact ⟨0,rfl,Nat.zero_le _,H5⟩
 case round=>
  clear H5
  obtain ⟨k,rfl,hk,HT⟩:=hrel
  by_cases hlt:k<os.length
  ·have i0:(0:Int)≤(k:Int):=by omega
   have i1:(k:Int)<(os.length:Int):=by omega
   have i2:IntKind.i64.wrap ((k:Int)+1)=(k:Int)+1:=i64_keep2 (by omega) (by omega)
   obtain ⟨b,off,lo,lc,no,nc,e,c0,c1,c2,c3,c4,c5,a1,a2,a3⟩:=HO.out.1.get HT.out.sm hlt
   subst e
   have HZ:Hid (os[k].Ok):=HO.out.2 _ (List.getElem_mem hlt)
   generalize os[k]=z at *
   obtain ⟨bz,hbz⟩:∃ bz,bz=z.two:=⟨_,rfl⟩
   rw [← hbz] at c3
   clear hbz
   cases bz
   ·skip
    cases na
    ·obtain ⟨h,g,r,v,room,l,ea,ex,hp,next⟩:=HT.out.first rfl
     subst ea ex
     have CD:=do11_any hp HT.out.sm z.kind z.n z.m HZ.out.n HZ.out.m false a1 (nc:=nc) a2 a3
     have HN:Hid (∀ w6,DoT w.heap.size wr h g r v room w6→Hid (TwoH w w6 (.pointer (some ⟨h,0,none⟩)) (.pointer (some ⟨r,0,none⟩)) pb py false nb)):=fun w6 q6=>(next w6 q6)
     clear hp next a1 a2 a3
     go_wp2_with (first | (go_at_call 10;refine CD.mono ?_;rintro e w6 ⟨rfl,q6⟩;have HF:=HN.out w6 q6;clear q6))
     go_roundw
     case rel=>first | exact ⟨k+1,by go_num,by omega,HF⟩ | ((repeat apply Exists.intro);exact ⟨⟨k+1,by go_num,by omega,HF⟩,rfl⟩)
     case measure=>simp [intOf];omega
    ·obtain ⟨ea,ex⟩:=HT.out.none rfl
     subst ea ex
     clear a1 a2 a3
     go_wp2
     go_roundw
     case rel=>first | exact ⟨k+1,by go_num,by omega,HT⟩ | ((repeat apply Exists.intro);exact ⟨⟨k+1,by go_num,by omega,HT⟩,rfl⟩)
     case measure=>simp [intOf];omega
   ·skip
    cases nb
    ·obtain ⟨h,g,r,v,room,l,ea,ex,hp,next⟩:=HT.out.swap.first rfl
     subst ea ex
     have CD:=do11_any hp HT.out.sm z.kind z.n z.m HZ.out.n HZ.out.m true a1 (nc:=nc) a2 a3
     have HN:Hid (∀ w6,DoT w.heap.size wr h g r v room w6→Hid (TwoH w w6 pa px (.pointer (some ⟨h,0,none⟩)) (.pointer (some ⟨r,0,none⟩)) na false)):=fun w6 q6=>(next w6 q6).swap
     clear hp next a1 a2 a3
     go_wp2_with (first | (go_at_call 10;refine CD.mono ?_;rintro e w6 ⟨rfl,q6⟩;have HF:=HN.out w6 q6;clear q6))
     go_roundw
     case rel=>first | exact ⟨k+1,by go_num,by omega,HF⟩ | ((repeat apply Exists.intro);exact ⟨⟨k+1,by go_num,by omega,HF⟩,rfl⟩)
     case measure=>simp [intOf];omega
    ·obtain ⟨ea,ex⟩:=HT.out.swap.none rfl
     subst ea ex
     clear a1 a2 a3
     go_wp2
     go_roundw
     case rel=>first | exact ⟨k+1,by go_num,by omega,HT⟩ | ((repeat apply Exists.intro);exact ⟨⟨k+1,by go_num,by omega,HT⟩,rfl⟩)
     case measure=>simp [intOf];omega
  ·have hkl:k=os.length:=by omega
   subst hkl
   have HB1:Hid (∀ ww,TwoH w ww pa px pb py na nb→na=false→Calls Try.prog 10 #[pa,px,.agg #[.int .i64 7,.int .i64 0,.int .i64 0,.bool false,.slice none 0 0,.slice none 0 0]] ww fun e w' => e=.returned (.bool true)∧TwoH w w' pa px pb py na nb):=fun ww q e=>by
    subst e;exact do11_bare 7 q
   have HB2:Hid (∀ ww,TwoH w ww pa px pb py na nb→nb=false→Calls Try.prog 10 #[pb,py,.agg #[.int .i64 7,.int .i64 0,.int .i64 0,.bool false,.slice none 0 0,.slice none 0 0]] ww fun e w' => e=.returned (.bool true)∧TwoH w w' pa px pb py na nb):=fun ww q e=>by
    subst e;exact (do11_bare 7 q.swap).mono (fun e w' ⟨h1,h2⟩=>⟨h1,h2.swap⟩)
   go_upto_region 20 with fail
   go_cut [20] from 99 to 106 (fun s20 wc=>s20=.bool true∧Hid (TwoH w wc pa px pb py na nb))
   case first=>
    cases na
    ·have CD:=HB1.out _ HT.out rfl
     obtain ⟨h,g,r,v,room,l,ea,ex, -, -⟩:=HT.out.first rfl
     subst ea ex
     go_wp2_with (first | (go_at_call 10;refine CD.mono ?_;rintro e w6 ⟨rfl,q6⟩))
     go_meet
     case rel=>exact ⟨rfl,q6⟩
    ·obtain ⟨ea,ex⟩:=HT.out.none rfl
     subst ea ex
     go_wp2
     go_meet
     case rel=>exact ⟨rfl,HT⟩
   case rest=>
   obtain ⟨rfl,HT2⟩:=hcut
   obtain ⟨W9,hW9⟩:∃ W9,W9=wc:=⟨_,rfl⟩
   rw [← hW9] at HT2 ⊢
   clear hW9
   go_upto_region 21 with fail
   go_cut [21] from 107 to 114 (fun s21 wc=>s21=.bool true∧Hid (TwoH w wc pa px pb py na nb))
   case first=>
    cases nb
    ·have CD:=HB2.out _ HT2.out rfl
     obtain ⟨h,g,r,v,room,l,ea,ex, -, -⟩:=HT2.out.swap.first rfl
     subst ea ex
     go_wp2_with (first | (go_at_call 10;refine CD.mono ?_;rintro e w6 ⟨rfl,q6⟩))
     go_meet
     case rel=>exact ⟨rfl,q6⟩
    ·obtain ⟨ea,ex⟩:=HT2.out.swap.none rfl
     subst ea ex
     go_wp2
     go_meet
     case rel=>exact ⟨rfl,HT2⟩
   case rest=>
   obtain ⟨rfl,HT3⟩:=hcut
   go_wp2
   go_ret
   exact ⟨rfl,HB.out _ HT3.out.sm⟩
end Go.Proofs.Ytmloedlkoijfbaa
