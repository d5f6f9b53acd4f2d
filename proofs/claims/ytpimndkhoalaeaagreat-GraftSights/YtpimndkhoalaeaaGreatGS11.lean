import Derived.Test.YtpimndkhoalaeaaGreatGS10
import Derived.Test.YtpimndkhoalaeaaGreatGS04
namespace Go.Proofs.YtpimndkhoalaeaaGreat
set_option maxRecDepth 100000
set_option linter.unusedVariables false
open Go.RowKit
attribute [local go_sem ↓] Go.wp_at_zero Go.wp_at_succ
theorem TwG.rarg {n0:Nat} {w:World} {h g r:Nat} {v:Value} {N:List Nd} (q:TwG n0 w h g r v N) (a n:Int):Calls Tryz.prog 24 #[.pointer (some ⟨r,0,none⟩),.int .i64 a,.int .i64 n] w fun e w' => ∃ y,e=.returned (.int .i64 y)∧ArR N a n y∧Same0 w w' := by
 obtain ⟨ao,cap,rd⟩:=q.rh.rd
 have k1:Same0 w (w.alloc (.cells #[.int .i64 n] 3)):=(Kept.refl _ _).alloc _
 have C:=rleads_one (rd.same k1) a n (ints_one w n)
 clear rd q
 go_enter Tryz.func24,Tryz.ntmps24
 go_wp2_with (first | (go_at_call 53;refine C.mono ?_;rintro e w1 ⟨y,rfl,hy,k2⟩))
 go_ret
 exact ⟨y,rfl,hy,k1.trans' k2⟩
theorem RhB.rowN {B:Nat→Prop} {w:World} {r room:Nat} {v:Value} {N:List Nd} (p:RhB B w r room v N) {k:Nat} (e:v.ownBlock=some k):∃ cur,w.heap[k]? = some (.cells cur 86 (0,0)):=by
 obtain ⟨vs,q1,_⟩:=p.row
 rcases q1.2 with ⟨e1,_⟩ | ⟨g', cap', cur', e1,_,hg', _⟩
 ·rw [e1] at e;cases e
 ·rw [e1] at e
  have e2:g' = k:=Option.some.inj e
  exact ⟨cur', e2 ▸ hg'⟩
set_option maxHeartbeats 4000000 in
theorem gsights_walk {w:World} {lo:Option Addr} {lc:Nat} {l:List Nd} (hl:NsW w lo l) (hls:l.length * 56≤140737488351232) (aa tt n:Int) :
  Calls Tryz.prog 5 #[.slice lo l.length lc,.int .i64 aa,.int .i64 tt,.int .i64 n] w fun e w' => e=.returned (.bool true)∧Below w.heap.size w w' := by
 have CA:=awake13_any w
 have HB:Hid (∀ w', Same0 w w' → Below w.heap.size w w'):=fun w' hk=>hk.below
 have CM:Hid (∀ ww,Same0 w ww→Calls Tryz.prog 8 #[.int .i64 4000,.slice lo l.length lc] ww fun e w' => ∃ v1 v2,e=.returned (.tuple #[v1,v2])∧MgQ l ww (.returned (.tuple #[v1,v2])) w'):=fun ww hk=>(made13_any (hl.same hk) (by unfold maxLen;omega)).mono (fun e w' hq=>by
  rcases hq with ⟨rfl,k⟩ | ⟨h,g,r,v,rfl,q⟩
  ·exact ⟨_,_,rfl,.inl ⟨rfl,k⟩⟩
  ·exact ⟨_,_,rfl,.inr ⟨h,g,r,v,rfl,q⟩⟩)
 clear hl
 go_enter Tryz.func5,Tryz.ntmps5
 go_upto_region 3 with (first
  | (go_at_call 6;refine CA.mono ?_;rintro e w1 ⟨rfl,k1⟩)
  | (go_at_call 8;refine (CM.out w1 k1).mono ?_;rintro e w3 ⟨v1,v2,rfl,hq⟩))
 clear CA CM
 rcases hq with ⟨e,k3⟩ | ⟨h,g,r,v,e,md⟩
 ·simp only [Ending.returned.injEq,Value.tuple.injEq,Array.mk.injEq,List.cons.injEq,and_true] at e
  obtain ⟨rfl,rfl⟩:=e
  go_wp2
  go_ret
  exact ⟨rfl,HB.out _ (k1.trans' k3)⟩
 ·simp only [Ending.returned.injEq,Value.tuple.injEq,Array.mk.injEq,List.cons.injEq,and_true] at e
  obtain ⟨rfl,rfl⟩:=e
  have hl4:l.length≤4000:=md.hp.le
  have Q3:TwG w1.heap.size w3 h g r v l:=⟨md.hp.mono (fun _ _ _ _=>trivial),md.rh.monoG (fun _ _ _=>trivial),⟨md.nr.1,md.nr.2,fun k e=>⟨(md.lv k e).2.2.1,(md.lv k e).2.1,(md.lv k e).2.2.2⟩⟩,⟨md.lh,md.lg,md.lr,fun k e=>(md.lv k e).1⟩⟩
  have K3:Same0 w w3:=k1.trans' md.same
  have hz:w.heap.size≤w1.heap.size:=k1.size
  clear md k1
  have CO:=of_any (some ⟨h,0,none⟩) w3
  go_upto_region 6 with (first | (go_at_call 20;refine CO.mono ?_;rintro e w4 ⟨rfl,k4⟩))
  obtain ⟨X,hX⟩:∃ X,X=w4.alloc (.cells #[.pointer (some ⟨h,0,none⟩)] 67):=⟨_,rfl⟩
  rw [← hX]
  have jX:Same0 w4 X:=by rw [hX];exact (Kept.refl _ _).alloc _
  have nX:X.heap[w4.heap.size]? = some (.cells #[.pointer (some ⟨h,0,none⟩)] 67 (0,0)):=by rw [hX];exact heap_alloc_new _ _
  have QX:Hid (TwG w1.heap.size X h g r v l):=(Q3.same k4).same jX
  have KX:Hid (Same0 w X):=(K3.trans' k4).trans' jX
  have NX:Hid (X.heap[w4.heap.size]? = some (.cells #[.pointer (some ⟨h,0,none⟩)] 67 (0,0))):=nX
  clear hX jX nX Q3 K3 CO k4
  generalize w4.heap.size=cb at *
  have HA:Hid (∀ ww N a n,TwG w1.heap.size ww h g r v N→Calls Tryz.prog 23 #[.agg #[.pointer (some ⟨h,0,none⟩)],.int .i64 a,.int .i64 n] ww fun e w' => ∃ y,e=.returned (.int .i64 y)∧ArR N a n y∧Same0 ww w'):=fun ww N a n q=>arg_any q.hp a n
  have HRA:Hid (∀ ww N a n,TwG w1.heap.size ww h g r v N→Calls Tryz.prog 24 #[.pointer (some ⟨r,0,none⟩),.int .i64 a,.int .i64 n] ww fun e w' => ∃ y,e=.returned (.int .i64 y)∧ArR N a n y∧Same0 ww w'):=fun ww N a n q=>q.rarg a n
  have HH:Hid (∀ ww N a,TwG w1.heap.size ww h g r v N→Calls Tryz.prog 21 #[.agg #[.pointer (some ⟨h,0,none⟩)],.int .i64 a] ww fun e w' => ∃ s f,e=.returned (.tuple #[.int .i64 s,.bool f])∧HdR N a s f∧Same0 ww w'):=fun ww N a q=>q.head a
  have HRH:Hid (∀ ww N a,TwG w1.heap.size ww h g r v N→Calls Tryz.prog 22 #[.pointer (some ⟨r,0,none⟩),.int .i64 a] ww fun e w' => ∃ s f,e=.returned (.tuple #[.int .i64 s,.bool f])∧HdR N a s f∧Same0 ww w'):=fun ww N a q=>q.rhead a
  go_wp2_with fail
  go_loopw [13] (fun s13 wr=>∃ (rd:Nat) (N:List Nd),rd≤2∧s13=.int .i64 (rd:Int)∧Hid (TwG w1.heap.size wr h g r v N)∧Hid (Same0 w wr)∧Hid (wr.heap[cb]? = some (.cells #[.pointer (some ⟨h,0,none⟩)] 67 (0,0)))) (fun s13 _=>2-(intOf s13).toNat)
  case atStart=>exact ⟨0,l,by omega,rfl,QX,KX,NX⟩
  case round=>
   clear QX KX NX
   obtain ⟨rd,N,hrd,rfl,QR,KR,NR⟩:=hrel
   by_cases hr2:rd<2
   ·have r1:(rd:Int)<2:=by omega
    go_wp2_with fail
    go_loopw [14] (fun s14 wr=>∃ j:Nat,j≤l.length+4∧s14=.int .i64 ((j:Int)-2)∧Hid (TwG w1.heap.size wr h g r v N)∧Hid (Same0 w wr)∧Hid (wr.heap[cb]? = some (.cells #[.pointer (some ⟨h,0,none⟩)] 67 (0,0)))) (fun s14 _=>l.length+4-(intOf s14+2).toNat)
    case atStart=>exact ⟨0,by omega,rfl,QR,KR,NR⟩
    case round=>
     clear QR KR NR
     obtain ⟨j,hj,rfl,QJ,KJ,NJ⟩:=hrel
     by_cases hj2:j<l.length+4
     ·have j1:(j:Int)-2<(l.length:Int)+2:=by omega
      obtain ⟨av,hav⟩:∃ av:Int,(j:Int)-2=av:=⟨_,rfl⟩
      have HAV:Hid ((j:Int)-2=av):=hav
      rw [hav] at j1 ⊢
      have av1:av≤5000:=by omega
      have av2 : -2≤av:=by omega
      clear hav
      have x0:wr.cell? ⟨cb,0,none⟩=some (.pointer (some ⟨h,0,none⟩)):=cellAt NJ.out 0
      have C1:=HH.out wr N av QJ.out
      go_upto_region 14 with (first
       | (go_at_call 21;refine C1.mono ?_;rintro e w5 ⟨s1,f1,rfl,h1,k5⟩;have C2:=HRH.out w5 N av (QJ.out.same k5))
       | (go_at_call 22;refine C2.mono ?_;rintro e w6 ⟨s2,f2,rfl,h2,k6⟩))
      obtain ⟨rfl,rfl⟩:=h1.uniq h2
      have Q6:Hid (TwG w1.heap.size w6 h g r v N):=(QJ.out.same k5).same k6
      have K6:Hid (Same0 w w6):=(KJ.out.trans' k5).trans' k6
      have N6:Hid (w6.heap[cb]? = some (.cells #[.pointer (some ⟨h,0,none⟩)] 67 (0,0))):=k6.at0 (k5.at0 NJ.out)
      have ff:∀ ww:World,(binOp .neq 4 (.bool f1) (.bool f1)).run Tryz.prog ww=.ok (.bool false) ww:=fun ww=>by cases f1 <;> kernel_rfl
      clear C1 C2 k5 k6 x0 QJ KJ NJ h1 h2
      go_wp2_with fail
      go_loopw [19] (fun s19 wr=>∃ k:Nat,k≤9∧s19=.int .i64 ((k:Int)-1)∧Hid (TwG w1.heap.size wr h g r v N)∧Hid (Same0 w wr)∧Hid (wr.heap[cb]? = some (.cells #[.pointer (some ⟨h,0,none⟩)] 67 (0,0)))) (fun s19 _=>9-(intOf s19+1).toNat)
      case atStart=>exact ⟨0,by omega,rfl,Q6,K6,N6⟩
      case round=>
       clear Q6 K6 N6
       obtain ⟨k,hk,rfl,QK,KK,NK⟩:=hrel
       by_cases hk9:k<9
       ·have k1:(k:Int)-1<8:=by omega
        have x0:wr.cell? ⟨cb,0,none⟩=some (.pointer (some ⟨h,0,none⟩)):=cellAt NK.out 0
        have C1:=HA.out wr N av ((k:Int)-1) QK.out
        go_upto_region 20 with (first
         | (go_at_call 23;refine C1.mono ?_;rintro e w5 ⟨y1,rfl,h1,k5⟩;have C2:=HRA.out w5 N av ((k:Int)-1) (QK.out.same k5))
         | (go_at_call 24;refine C2.mono ?_;rintro e w6 ⟨y2,rfl,h2,k6⟩;obtain rfl:=h1.uniq h2))
        have QK6:Hid (TwG w1.heap.size w6 h g r v N):=(QK.out.same k5).same k6
        have KK6:Hid (Same0 w w6):=(KK.out.trans' k5).trans' k6
        have NK6:Hid (w6.heap[cb]? = some (.cells #[.pointer (some ⟨h,0,none⟩)] 67 (0,0))):=k6.at0 (k5.at0 NK.out)
        clear C1 C2 k5 k6 QK KK NK h1 h2 x0
        go_wp2_with fail
        refine ⟨⟨k+1,by omega,by go_num,QK6,KK6,NK6⟩,by first | (simp [intOf];done) | (simp [intOf];omega)⟩
       ·have k1:¬ ((k:Int)-1<8):=by omega
        go_wp2_with fail
        have e1:av+1=((j+1:Nat):Int)-2:=by have:=HAV.out;omega
        refine ⟨⟨j+1,by omega,by first | (rw [← e1];done) | (rw [← e1];rfl) | (rw [← e1];go_num),QK,KK,NK⟩,?_⟩
        have:=HAV.out
        simp [intOf];omega
     ·obtain rfl:j=l.length+4:=by omega
      have j1:¬ (((l.length+4:Nat):Int)-2<(l.length:Int)+2):=by omega
      have x0:wr.cell? ⟨cb,0,none⟩=some (.pointer (some ⟨h,0,none⟩)):=cellAt NJ.out 0
      obtain ⟨av,hav⟩:∃ av:Int,((l.length+4:Nat):Int)-2=av:=⟨_,rfl⟩
      rw [hav] at j1 ⊢
      clear hav
      have C1:=HA.out wr N aa n QJ.out
      have HPT:Hid (∀ ww N,TwG w1.heap.size ww h g r v N→Calls Tryz.prog 25 #[.pointer (some ⟨h,0,none⟩),.int .i64 aa,.int .i64 tt] ww fun e w' => ∃ c N', e=.returned (.int .i64 c)∧PtE N aa tt c N' ∧ HpB (fun _=>True) w' h g 4000 N' ∧ Kept (fun k=>k=g) ww w'):=fun ww N q=>hpoint_any q.hp aa tt
      have HMK:Hid (∀ ww N,TwG w1.heap.size ww h g r v N→Calls Tryz.prog 27 #[.pointer (some ⟨h,0,none⟩),.int .i64 tt,.int .i64 n] ww fun e w' => ∃ c N', e=.returned (.int .i64 c)∧MkR N tt n c N' ∧ HpB (fun _=>True) w' h g 4000 N' ∧ Kept (fun k=>k=g) ww w'):=fun ww N q=>hmark_any q.hp tt n
      go_upto_region 23 with (first
       | (go_at_call 23;refine C1.mono ?_;rintro e w5 ⟨y1,rfl,h1,k5⟩;have C2:=HRA.out w5 N aa n (QJ.out.same k5))
       | (go_at_call 24;refine C2.mono ?_;rintro e w6 ⟨y2,rfl,h2,k6⟩;obtain rfl:=h1.uniq h2))
      have Q6:=(QJ.out.same k5).same k6
      have K6:Same0 w w6:=(KJ.out.trans' k5).trans' k6
      have N6:=k6.at0 (k5.at0 NJ.out)
      have C3:=HPT.out w6 N Q6
      clear C1 C2 k5 k6 x0 QJ KJ NJ h1 h2
      have STP:Hid (∀ wa wb c N' c2 N2,HpB (fun _=>True) wa h g 4000 N' → Kept (fun k=>k=g) w6 wa→PtE N aa tt c N' → PtE N aa tt c2 N2→RhB (fun _=>True) wa r 4000 v N→RhB (fun _=>True) wb r 4000 v N2→Kept (fun k=>v.ownBlock=some k) wa wb→c=c2∧TwG w1.heap.size wb h g r v N' ∧ Kept (fun k=>k=g∨v.ownBlock=some k) w6 wb):=fun wa wb c N' c2 N2 p1 k1 e1 e2 r1 r2 k2=>by
       obtain ⟨rfl,rfl⟩:=e1.uniq e2
       exact ⟨rfl,Q6.afterR p1 r1 r2 k2,(k1.mono (fun _ _ e=>.inl e)).trans k2 (fun _ _ e=>.inr e)⟩
      go_upto_region 24 with (first
       | (go_at_call 25;refine C3.mono ?_;rintro e w7 ⟨c7,N7,rfl,pe7,p7,k7⟩;have r7:=Q6.afterH p7 k7;have C4:=rpoint_any r7 aa tt)
       | (go_at_call 26;refine C4.mono ?_;rintro e w8 ⟨c8,N8,rfl,pe8,r8,k8⟩;obtain ⟨rfl,Q8,kk8⟩:=STP.out w7 w8 c7 N7 c8 N8 p7 k7 pe7 pe8 r7 r8 k8;have C5:=HMK.out w8 N7 Q8)
       | (go_at_call 27;refine C5.mono ?_;rintro e w9 ⟨c9,N9,rfl,pe9,p9,k9⟩;have r9:=Q8.afterH p9 k9;have C6:=rmark_any r9 tt n)
       | (go_at_call 28;refine C6.mono ?_;rintro e w10 ⟨c10,N10,rfl,pe10,r10,k10⟩;obtain ⟨rfl,rfl⟩:=pe9.uniq pe10))
      have Q10:Hid (TwG w1.heap.size w10 h g r v N9):=Q8.afterR p9 r9 r10 k10
      have kk:Kept (fun k=>k=g∨v.ownBlock=some k) w6 w10:=(kk8.trans k9 (fun _ _ e=>.inl e)).trans k10 (fun _ _ e=>.inr e)
      have K10:Hid (Same0 w w10):=K6.trans kk (fun i hi e=>by
       rcases e with e | e
       ·have:=Q6.lo.2.1;omega
       ·have:=Q6.lo.2.2.2 i e;omega)
      have N10' : Hid (w10.heap[cb]? = some (.cells #[.pointer (some ⟨h,0,none⟩)] 67 (0,0))):=kk.at N6 (fun e=>by
       rcases e with e | e
       ·obtain ⟨cs,hq,_⟩:=Q6.hp.blk
        rw [e,hq] at N6;cases N6
       ·obtain ⟨cur,hq⟩:=Q6.rh.rowN e
        rw [hq] at N6;cases N6)
      clear STP C3 C4 C5 C6 Q6 Q8 kk8 kk k7 k8 k9 k10 p7 p9 r7 r8 r9 r10 pe7 pe8 pe9 pe10 K6 N6 HPT HMK
      go_wp2_with fail
      refine ⟨⟨rd+1,N9,by omega,by go_num,Q10,K10,N10'⟩,by simp [intOf];omega⟩
   ·have r1:¬ ((rd:Int)<2):=by omega
    go_wp2_with fail
    go_ret
    exact ⟨rfl,HB.out _ KR.out⟩
end Go.Proofs.YtpimndkhoalaeaaGreat
namespace Go.Proofs.YtpimndkhoalaeaaGreat
set_option maxRecDepth 100000
set_option linter.unusedVariables false
open Go.RowKit Go.Deep
theorem cells_node:Tryz.prog.cellsOf 86=5:=by kernel_rfl
theorem bytes_node:Tryz.prog.bytesOf 86=56:=by kernel_rfl
theorem cells_boolT:Tryz.prog.cellsOf 4=1:=by kernel_rfl
theorem cells_intsT:Tryz.prog.cellsOf 33=1:=by kernel_rfl
def NdI (x:Nd):Prop:=I64 x.1∧(∀ z∈x.2.1,I64 z)∧I64 x.2.2.1∧I64 x.2.2.2.2
section
variable {H : Type} {enc : TypeId × Value → H} {w : World} {spare : Nat → Bool} {held : Bool}
theorem weightsAll_mem11 {P:Program} {e:TypeId} {l:List (DataW H)} {d:DataW H} (h:d∈l) {n:Nat} (hn:n∈d.weights P e):n∈DataW.weightsAll P e l:=by
 induction l with
 | nil=>cases h
 | cons x r ih=>
  simp only [DataW.weightsAll,List.mem_append]
  rcases List.mem_cons.1 h with q | q
  ·subst q;exact .inl hn
  ·exact .inr (ih q)
set_option maxRecDepth 100000 in
theorem open_elems11 {t e c fuel:Nat} {ao:Option Addr} {len cap:Nat} {x:DataW H × List MemPlace} (ht:Tryz.prog.underlying t=some (.slice e)) (hc:Tryz.prog.cellsOf e=c) (h0:0<c) (h:DataW.trod enc Tryz.prog w 0 spare held fuel t [.slice ao len cap]=some x) (hw:∀ n∈x.1.weights Tryz.prog t,n≤reachBytes) :
  (ao=none∧len=0∧cap=0)∨∃ a,ao=some a∧len≤cap∧cap≤maxLen∧len * Tryz.prog.bytesOf e≤reachBytes∧∀ i,i<len→a=⟨a.block,a.off,none⟩∧a.block<w.heap.size∧∃ cs n y,cs.length=c∧(∀ j,j<c→w.cell? ⟨a.block,a.off+i * c+j,none⟩=cs[j]?)∧DataW.trod enc Tryz.prog w 0 spare held n e cs=some y∧∀ n∈y.1.weights Tryz.prog e,n≤reachBytes:=by
 rcases open_slice ht h with ⟨hcs,_⟩ | ⟨a,len', cap', m,n,D,Pl,hcs,_,hl,hm,hmm,rfl,hx⟩
 ·simp at hcs;exact .inl ⟨hcs.1,hcs.2.1,hcs.2.2⟩
 ·simp at hcs
  obtain ⟨rfl,rfl,rfl⟩:=hcs
  have hb:len * Tryz.prog.bytesOf e≤reachBytes:=by
   have:=hw ((((List.range len).map D).length+((List.range (m-len)).map fun j=>D (len+j)).length) * Tryz.prog.bytesOf e) (by simp [DataW.weights,ht])
   refine Nat.le_trans (Nat.mul_le_mul_right _ ?_) this
   simp
  refine .inr ⟨a,rfl,hl,hm,hb,fun i hi=>?_⟩
  have hmi:i<m:=by rw [hmm];split <;> omega
  have hm0:0<m:=by omega
  obtain ⟨cs0,g0,_⟩:=hx 0 hm0
  rw [hc] at g0
  obtain ⟨_,gl,gc⟩:=World.cells?_some g0
  have hsp:a.spot=none:=by
   have:=gc 0 h0
   have hv:cs0[0]? = some (cs0[0]'(by omega)):=List.getElem?_eq_getElem (by omega)
   rw [hv] at this
   simp [Addr.add] at this
   exact World.cell?_spot this
  have hlt:a.block<w.heap.size:=World.cells?_block (by simpa [Addr.add] using g0) h0
  have ea:a=⟨a.block,a.off,none⟩:=by cases a;simp_all
  obtain ⟨cs,g1,g2⟩:=hx i hmi
  rw [hc] at g1
  obtain ⟨_,gl1,gc1⟩:=World.cells?_some g1
  refine ⟨ea,hlt,cs,n,_,gl1,fun j hj=>?_,g2,fun k hk=>hw k ?_⟩
  ·rw [← gc1 j hj,add_add]
   congr 1
   unfold Addr.add
   split
   ·rw [ea];simp;omega
   ·simp
  ·simp only [DataW.weights,ht,List.mem_cons,List.mem_append]
   exact .inr (.inl (weightsAll_mem11 (List.mem_map.2 ⟨i,by simpa using hi,rfl⟩) hk))
theorem trod_node {fuel:Nat} {cs:List Value} {x:DataW H × List MemPlace} (hl:cs.length=5) (h:DataW.trod enc Tryz.prog w 0 spare held fuel 86 cs=some x) (hw:∀ n∈x.1.weights Tryz.prog 86,n≤reachBytes):∃ (y:Nd) (xo:Option Addr) (xc:Nat),NdI y∧Arg w xo y.2.1 xc∧cs=[.int .i64 y.1,.slice xo y.2.1.length xc,.int .i64 y.2.2.1,.bool y.2.2.2.1,.int .i64 y.2.2.2.2]:=by
 obtain ⟨y0,y1,y2,y3,y4,n', hyd,hl', g0,g1,g2,g3,g4⟩:=trod_struct5 Tryz.underlying86 h
 match cs,hl with
 | [c0,c1,c2,c3,c4],_=>
  simp only [cells_int,cells_boolT,cells_intsT,List.drop_zero,List.take_succ_cons,List.take_zero,List.drop_succ_cons] at g0 g1 g2 g3 g4
  obtain ⟨z0,e0,_,w0⟩:=DataW.trod_int Tryz.underlying3 g0
  obtain ⟨z2,e2,_,w2⟩:=DataW.trod_int Tryz.underlying3 g2
  obtain ⟨z3,e3,_⟩:=DataW.trod_bool Tryz.underlying4 g3
  obtain ⟨z4,e4,_,w4⟩:=DataW.trod_int Tryz.underlying3 g4
  have hyw1:∀ n∈y1.1.weights Tryz.prog 33,n≤reachBytes:=fun n hn=>hw n (by
   rw [hyd]
   simp only [DataW.weights,Tryz.underlying86]
   simp [DataW.weightsEach,hn])
  obtain ⟨xo,len,xc,e1⟩:=slice_one Tryz.underlying33 g1
  subst e1
  obtain ⟨xs,hxl,hxa,hxi⟩:=open_ints64 Tryz.underlying33 g1 hyw1
  subst hxl
  simp only [List.cons.injEq,and_true] at e0 e2 e3 e4
  subst e0 e2 e3 e4
  exact ⟨(z0,xs,z2,z3,z4),xo,xc,⟨i64_wf w0,hxi,i64_wf w2,i64_wf w4⟩,hxa,rfl⟩
theorem open_nodes {fuel:Nat} {ao:Option Addr} {len cap:Nat} {x:DataW H × List MemPlace} (h:DataW.trod enc Tryz.prog w 0 spare held fuel 23 [.slice ao len cap]=some x) (hw:∀ n∈x.1.weights Tryz.prog 23,n≤reachBytes) :
  ∃ l:List Nd,l.length=len∧NsW w ao l∧len * 56≤140737488351232∧len≤cap∧(ao=none→len=0∧cap=0)∧∀ y∈l,NdI y:=by
 rcases open_elems11 Tryz.underlying23 cells_node (by omega) h hw with ⟨rfl,rfl,rfl⟩ | ⟨a,rfl,hl1,hl2,hsz,hall⟩
 ·exact ⟨[],rfl,.inl rfl,by omega,Nat.le_refl _,fun _=>⟨rfl,rfl⟩,by simp⟩
 ·rw [bytes_node] at hsz
  have each:∀ i,i<len→∃ y:Nd,NdI y∧∃ xo xc,w.cell? ⟨a.block,a.off+i * 5,none⟩=some (.int .i64 y.1)∧w.cell? ⟨a.block,a.off+i * 5+1,none⟩=some (.slice xo y.2.1.length xc)∧w.cell? ⟨a.block,a.off+i * 5+2,none⟩=some (.int .i64 y.2.2.1)∧w.cell? ⟨a.block,a.off+i * 5+3,none⟩=some (.bool y.2.2.2.1)∧w.cell? ⟨a.block,a.off+i * 5+4,none⟩=some (.int .i64 y.2.2.2.2)∧Arg w xo y.2.1 xc:=by
   intro i hi
   obtain ⟨_,_,cs,n,y,hl,hcell,hy,hyw⟩:=hall i hi
   obtain ⟨z,xo,xc,h1,h2,rfl⟩:=trod_node hl hy hyw
   exact ⟨z,h1,xo,xc,by simpa using hcell 0 (by omega),by simpa using hcell 1 (by omega),by simpa using hcell 2 (by omega),by simpa using hcell 3 (by omega),by simpa using hcell 4 (by omega),h2⟩
  obtain ⟨f,hf⟩:=Classical.axiomOfChoice (fun i:Fin len=>each i i.2)
  refine ⟨List.ofFn f,by simp,?_,by simpa [reachBytes] using hsz,hl1,(fun e=>by cases e),fun y hy=>?_⟩
  ·by_cases h0:len=0
   ·subst h0;exact .inl (by simp)
   ·obtain ⟨ea,hlt,_⟩:=hall 0 (by omega)
    refine .inr ⟨a.block,a.off,by rw [← ea],hlt,fun i hi=>?_⟩
    have hi' : i<len:=by simpa using hi
    simpa using (hf ⟨i,hi'⟩).2
  ·obtain ⟨i,rfl⟩:=List.mem_ofFn.1 hy
   exact (hf i).1
end
end Go.Proofs.YtpimndkhoalaeaaGreat
