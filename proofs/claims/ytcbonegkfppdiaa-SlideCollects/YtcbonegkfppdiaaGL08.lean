import Derived.Test.YtcbonegkfppdiaaGL07
import Derived.Test.YtcbonegkfppdiaaGL03
namespace Go.Proofs.Ytcbonegkfppdiaa
set_option maxRecDepth 100000
set_option linter.unusedVariables false
open Go.RowKit
attribute [local go_sem ↓] Go.wp_at_zero Go.wp_at_succ
def LvA (l:List Nd) (R:List Int) (L:List Nat) (E:Int):Prop:=(¬ (∀ r∈R,0≤r∧r<(l.length:Int))∧L=[]∧E=120)∨((∀ r∈R,0≤r∧r<(l.length:Int))∧KL l R L∧E=0)
theorem LvA.uniq {l:List Nd} {R:List Int} {L L' : List Nat} {E E' : Int} (h:LvA l R L E) (h' : LvA l R L' E'):L=L' ∧ E=E' := by
 rcases h with ⟨a,rfl,rfl⟩ | ⟨a,b,rfl⟩ <;> rcases h' with ⟨a', rfl,rfl⟩ | ⟨a', b', rfl⟩
 ·exact ⟨rfl,rfl⟩
 ·exact absurd a' a
 ·exact absurd a a'
 ·exact ⟨b.uniq b', rfl⟩
theorem LvA.len {l:List Nd} {R:List Int} {L:List Nat} {E:Int} (h:LvA l R L E):L.length≤l.length:=by
 rcases h with ⟨a,rfl,rfl⟩ | ⟨a,b,rfl⟩
 ·simp
 ·have h1:L.Sublist (List.range l.length):=by
   have:L=(List.range l.length).filter (fun a=>decide (a∈L)):=by
    apply rise_uniq b.1 (List.Pairwise.filter _ List.pairwise_lt_range)
    intro a
    simp only [List.mem_filter,List.mem_range,decide_eq_true_eq]
    exact ⟨fun q=>⟨((b.2 a).1 q).1.1,q⟩,fun q=>q.2⟩
   rw [this]
   exact List.filter_sublist
  simpa using h1.length_le
theorem live_any {B:Nat→Prop} {w:World} {h g room:Nat} {l:List Nd} (p:HpB B w h g room l) {ao:Option Addr} {R:List Int} {ac:Nat} (hx:Arg w ao R ac) :
  Calls Try.prog 28 #[.pointer (some ⟨h,0,none⟩),.slice ao R.length ac] w fun e w' => ∃ v L E,e=.returned (.tuple #[v,.int .i64 E])∧LvA l R L E∧Row w.heap.size w' v (ofN L)∧Same0 w w' := by
 by_cases hR:∀ r∈R,0≤r∧r<(l.length:Int)
 ·refine (live_yes p hx hR).mono ?_
  rintro e w' ⟨v,L,rfl,h1,h2,h3⟩
  exact ⟨v,L,0,rfl,.inr ⟨hR,h1,rfl⟩,h2,h3⟩
 ·refine (live_no p hx hR).mono ?_
  rintro e w' ⟨rfl,rfl⟩
  exact ⟨_,[],120,rfl,.inl ⟨hR,rfl,rfl⟩,World.ownsRow_nil _ _ _ _,Kept.refl _ _⟩
theorem rlive_any {B:Nat→Prop} {w:World} {r room:Nat} {v:Value} {l:List Nd} (p:RhB B w r room v l) {ao:Option Addr} {R:List Int} {ac:Nat} (hx:Arg w ao R ac) :
  Calls Try.prog 29 #[.pointer (some ⟨r,0,none⟩),.slice ao R.length ac] w fun e w' => ∃ v L E,e=.returned (.tuple #[v,.int .i64 E])∧LvA l R L E∧Row w.heap.size w' v (ofN L)∧Same0 w w' := by
 by_cases hR:∀ r∈R,0≤r∧r<(l.length:Int)
 ·refine (rlive_yes p hx hR).mono ?_
  rintro e w' ⟨v,L,rfl,h1,h2,h3⟩
  exact ⟨v,L,0,rfl,.inr ⟨hR,h1,rfl⟩,h2,h3⟩
 ·refine (rlive_no p hx hR).mono ?_
  rintro e w' ⟨rfl,rfl⟩
  exact ⟨_,[],120,rfl,.inl ⟨hR,rfl,rfl⟩,World.ownsRow_nil _ _ _ _,Kept.refl _ _⟩
theorem lent_arg {base:Nat} {w:World} {g c:Nat} {xs:List Int} (hr:Row base w (.slice (some ⟨g,0,none⟩) (xs.length+3) c) (lentL xs)) (hc:xs.length+3≤c) (hs:xs.length * 8≤140737488351232):Arg w (some ⟨g,0,none⟩) xs c:=by
 refine ⟨?_,by omega,(fun e=>by cases e),hs⟩
 by_cases h0:xs=[]
 ·exact .inl h0
 ·have hlt:g<w.heap.size:=(row_at hr (i:=0) (by simp)).2.2.2
  refine .inr ⟨g,0,rfl,hlt,fun i hi=>?_⟩
  have h1:=(row_at hr (i:=i) (by simp;omega)).1
  rw [Nat.zero_add,h1,List.getElem_append_left hi]
def SpR (base:Nat) (w wr:World) (v:Value) (n:Nat):Prop:=(∃ xs:List Int,xs.length=n∧Row base wr v xs)∧Kept (fun k=>v.ownBlock=some k) w wr
set_option maxHeartbeats 4000000 in
theorem slives_walk {w:World} {lo ro:Option Addr} {lc rc:Nat} {l:List Nd} {R:List Int} (hs:NsW w lo l) (hsz:l.length * 56≤140737488351232) (hx:Arg w ro R rc) :
  Calls Try.prog 6 #[.slice lo l.length lc,.slice ro R.length rc] w fun e w' => e=.returned (.bool true)∧Below w.heap.size w w' := by
 have C0:=awake12_any w
 have HS:Hid (∀ ww,Same0 w ww→NsW ww lo l):=fun ww hk=>hs.same hk
 have HX:Hid (∀ ww,Same0 w ww→Arg ww ro R rc):=fun ww hk=>hx.onto hk
 have HXB:Hid (R≠[]→∀ a,ro=some a→a.block<w.heap.size):=fun h0 a e=>hx.at'.lt h0 e
 have HZ:Hid (l.length≤maxLen):=by show _≤_;unfold maxLen;omega
 clear hs hsz hx
 go_enter Try.func6,Try.ntmps6
 go_upto_region 3 with (first | (go_at_call 25;refine C0.mono ?_;rintro e w1 ⟨rfl,k1⟩;have C1:=made12_any (ac:=lc) (HS.out w1 k1) HZ.out) | (go_at_call 26;refine C1.mono ?_;rintro e w2 hmd;rcases hmd with ⟨rfl,k2⟩ | ⟨h,g,r,v,rfl,md⟩))
 ·have K:Hid (Same0 w w2):=k1.trans' k2
  clear C0 C1
  go_wp2
  go_ret
  exact ⟨rfl,K.out.below⟩
 ·have K2:Same0 w w2:=k1.trans' md.same
  have hle:l.length≤4000:=md.hp.le
  have p2:=md.hp.any
  have r2:=RhB.mono md.rh (B' := fun _=>True) (fun _ _ _=>trivial)
  obtain ⟨vo,vc,e, -⟩:=r2.mem
  subst e
  have s1:=k1.size
  have hh:=p2.ltH
  have hg:=p2.ltG
  have hrl:=r2.lt
  have hvl:∀ k,(Value.slice vo l.length vc).ownBlock=some k→k<w2.heap.size:=fun k e=>(r2.row.block e).2.1
  have C2:=lent12_any (HX.out w2 K2)
  have HP:Hid (∀ ww,Same0 w2 ww→Hp ww h g 4000 l∧RhB (fun _=>True) ww r 4000 (.slice vo l.length vc) l):=fun ww hk=>⟨p2.same hk,r2.same hk⟩
  have HRS:Hid (R.length * 8≤140737488351232):=(HX.out w2 K2).size
  have HPK:Hid (∀ ww S,Kept S w2 ww→(∀ k,k<w2.heap.size→¬ S k)→Hp ww h g 4000 l∧RhB (fun _=>True) ww r 4000 (.slice vo l.length vc) l):=fun ww S hk hS=>by
   have hk' : Same0 w2 ww:=Kept.trans (Kept.refl _ w2) hk (fun i hi q=>absurd q (hS i hi))
   exact ⟨p2.same hk', r2.same hk'⟩
  clear C0 C1 md p2 r2
  go_upto_region 6 with (first | (go_at_call 27;refine C2.mono ?_;rintro e w3 ⟨tg,tc,rfl,hrow3,hc3,k3⟩))
  have K3:=K2.trans' k3
  have hA3:=lent_arg hrow3 hc3 HRS.out
  have htg:=(hrow3.lt tg rfl)
  have HT:Hid (∀ ww,Same0 w3 ww→Arg ww (some ⟨tg,0,none⟩) R tc∧Row w2.heap.size ww (.slice (some ⟨tg,0,none⟩) (R.length+3) tc) (lentL R)):=fun ww hk=>⟨hA3.onto hk,hk.row hrow3 (fun _ _ f=>f)⟩
  have C3:=live_any (HP.out w3 k3).1 hA3
  clear C2 hrow3 hA3
  go_upto_region 7 with (first | (go_at_call 28;refine C3.mono ?_;rintro e w4 ⟨av,La,E,rfl,hla,hrowa,k4⟩))
  have C4:=live_any (HP.out w4 (k3.trans' k4)).1 (HT.out w4 k4).1
  clear C3
  go_upto_region 8 with (first | (go_at_call 28;refine C4.mono ?_;rintro e w5 ⟨bv5,Lb,E2,rfl,hlb,hrowb,k5⟩))
  obtain ⟨rfl,rfl⟩:=hla.uniq hlb
  have k45:=k4.trans' k5
  have C5:=rlive_any (HP.out w5 (k3.trans' k45)).2 (HX.out w5 (K3.trans' k45))
  clear C4
  go_upto_region 9 with (first | (go_at_call 29;refine C5.mono ?_;rintro e w6 ⟨cv,Lc,E3,rfl,hlc,hrowc,k6⟩))
  obtain ⟨rfl,rfl⟩:=hla.uniq hlc
  have hlen:=hla.len
  obtain ⟨ao,ac,e,aI, -,aB⟩:=hrowa.ints
  rw [ofN_len'] at e
  subst e
  obtain ⟨bo,bc,e,bI, -,bB⟩:=hrowb.ints
  rw [ofN_len'] at e
  subst e
  obtain ⟨co,cc,e,cI, -,cB⟩:=hrowc.ints
  rw [ofN_len'] at e
  subst e
  have k46:=k45.trans' k6
  have k56:=k5.trans' k6
  have hmx:(ofN La).length≤maxLen:=by unfold maxLen;rw [ofN_len'];omega
  have CS:=sameInts_any ac cc (aI.same k56) cI hmx
  rw [show eqI (ofN La) (ofN La)=true by unfold eqI;simp,ofN_len'] at CS
  have s2:=k3.size
  have s3:=k4.size
  have s4:=k5.size
  have s5:=k6.size
  have H6:Hid (IntsAt w6 bo (ofN La)∧IntsAt w6 co (ofN La)∧(∀ a,bo=some a→w4.heap.size≤a.block)∧(∀ a,co=some a→w5.heap.size≤a.block)∧Row w3.heap.size w6 (.slice ao La.length ac) (ofN La)∧(∀ k,(Value.slice ao La.length ac).ownBlock=some k→w3.heap.size≤k∧k<w4.heap.size)∧Same0 w3 w6∧Same0 w2 w6):=⟨bI.same k6,cI,fun a e=>(bB a e).1,fun a e=>(cB a e).1,k56.row hrowa (fun _ _ f=>f),fun k e=>hrowa.lt k e,k46,k3.trans' k46⟩
  obtain ⟨n,hn⟩:∃ n,n=La.length:=⟨_,rfl⟩
  have HN:Hid (n=La.length∧La.length≤4000):=⟨hn,by omega⟩
  have i1:(n:Int)≤4000:=by omega
  have i0:(0:Int)≤(n:Int):=by omega
  have hEE:(E == E)=true:=by simp
  rw [← hn] at CS ⊢
  clear C5 hrowa hrowb hrowc aI bI cI aB bB cB hla hlb hlc k46 k56 k45 hmx hn hlen
  go_upto_region 11 with (first | (go_at_call 30;refine CS.mono ?_;rintro e w7 ⟨rfl,k7⟩))
  have HR0:Hid (SpR w3.heap.size w7 w7 (.slice ao n ac) n):=⟨⟨ofN La,by rw [ofN_len', HN.out.1],by rw [HN.out.1];exact k7.row H6.out.2.2.2.2.1 (fun _ _ f=>f)⟩,Kept.refl _ _⟩
  clear CS
  go_loopw [16] (fun v16 wr=>∃ k:Nat,k≤n∧v16=.int .i64 (k:Int)∧Hid (SpR w3.heap.size w7 wr (.slice ao n ac) n)) (fun v16 _=>n-(intOf v16).toNat)
  case atStart=>exact ⟨0,Nat.zero_le _,rfl,HR0⟩
  case round=>
   clear HR0
   obtain ⟨k,hk,rfl,HK⟩:=hrel
   by_cases hlt:k<n
   ·obtain ⟨⟨xs,hxl,hxr⟩,hkk⟩:=HK.out
    obtain ⟨ab,e⟩:∃ ab,ao=some ⟨ab,0,none⟩:=by
     rcases hxr.2 with ⟨q,q0⟩ | ⟨g', cap,cur,q,_⟩
     ·omega
     ·simp only [Value.slice.injEq] at q;exact ⟨_,q.1⟩
    subst e
    obtain ⟨ov,cm,fm⟩:∃ ov,wr.cell? ⟨ab,k,none⟩=some ov∧wr.frozen? ⟨ab,k,none⟩=false:=by
     obtain ⟨cm,fm, -, -⟩:=row_at hxr (i:=k) (by omega)
     exact ⟨_,cm,fm⟩
    have HK1:Hid (SpR w3.heap.size w7 (wr.setCell ⟨ab,k,none⟩ (.int .i64 (-3))) (.slice (some ⟨ab,0,none⟩) n ac) n):=⟨⟨xs.set k (-3),by simp [hxl],rowI_put hxr k _⟩,Kept.setCell (S:=fun k=>(Value.slice (some ⟨ab,0,none⟩) n ac).ownBlock=some k) hkk (p:=⟨ab,k,none⟩) (fun _=>rfl) _⟩
    have j5:(0:Int)≤(k:Int):=by omega
    have j6:(k:Int)<(n:Int):=by omega
    clear hxr hkk hxl HK
    go_wp2
    go_roundw
    case rel=>first | exact ⟨k+1,by omega,by go_num,HK1⟩ | ((repeat apply Exists.intro);exact ⟨⟨k+1,by omega,by go_num,HK1⟩,rfl⟩)
    case measure=>simp [intOf];omega
   ·have e:n=k:=by omega
    subst e
    have hkk:=HK.out.2
    have hab:∀ k,(Value.slice ao n ac).ownBlock=some k→w3.heap.size≤k∧k<w4.heap.size:=fun k e=>H6.out.2.2.2.2.2.1 k (by rw [← HN.out.1];exact e)
    have bI:IntsAt wr bo (ofN La):=(H6.out.1.same k7).kept hkk (fun a e q=>by have:=H6.out.2.2.1 a e;have:=hab _ q;omega)
    have cI:IntsAt wr co (ofN La):=(H6.out.2.1.same k7).kept hkk (fun a e q=>by have:=H6.out.2.2.2.1 a e;have:=hab _ q;omega)
    have CS:=sameInts_any bc cc bI cI (by unfold maxLen;rw [ofN_len'];have:=HN.out.2;omega)
    rw [show eqI (ofN La) (ofN La)=true by unfold eqI;simp,ofN_len', ← HN.out.1] at CS
    have k28:Same0 w2 wr:=(H6.out.2.2.2.2.2.2.2.trans' k7).trans hkk (fun i hi q=>by have:=hab _ q;omega)
    have k08:Same0 w wr:=K2.trans' k28
    have htr:Row w2.heap.size wr (.slice (some ⟨tg,0,none⟩) (R.length+3) tc) (lentL R):=hkk.row (HT.out w7 (H6.out.2.2.2.2.2.2.1.trans' k7)).2 (fun k e q=>by have e1:tg=k:=Option.some.inj e;have:=hab _ q;omega)
    have H8:Hid (Row w2.heap.size wr (.slice (some ⟨tg,0,none⟩) (R.length+3) tc) (lentL R)∧Same0 w2 wr∧Same0 w wr):=⟨htr,k28,k08⟩
    clear HK hkk hab bI cI htr k28 k08 hlt hk
    go_upto_region 15 with (first | (go_at_call 30;refine CS.mono ?_;rintro e w9 ⟨rfl,k9⟩))
    have CH:=held12_any (k9.row H8.out.1 (fun _ _ f=>f)) hc3 (HX.out w9 (H8.out.2.2.trans' k9)) (fun h0 a e q=>by have:=HXB.out h0 a e;have:=K2.size;omega)
    clear CS
    go_upto_region 16 with (first | (go_at_call 31;refine CH.mono ?_;rintro e w10 ⟨rfl,k10⟩))
    have K210:Same0 w2 w10:=(H8.out.2.1.trans' k9).trans k10 (fun i hi e=>by omega)
    have pp:=HP.out w10 K210
    have CT:=told12_any pp.1
    clear CH
    go_upto_region 17 with (first | (go_at_call 32;refine CT.mono ?_;rintro e w11 ⟨nv,rfl,hrow11,k11⟩))
    obtain ⟨no,nc,e⟩:=hrow11.shape
    subst e
    have r11:=pp.2.same k11
    obtain ⟨vo', vc', e,hns⟩:=r11.mem
    simp only [Value.slice.injEq] at e
    obtain ⟨rfl, -,rfl⟩:=e
    have CN:=sameNodes_any (ac:=nc) (bc:=vc) (NRow.mem hrow11).weak hns.weak (by unfold maxLen;omega)
    rw [eqL_self] at CN
    have c1:=r11.cells.2
    have HF:Hid (Same0 w w11):=(K2.trans' K210).trans' k11
    clear CT hrow11 hns pp r11 H8
    go_wp2_with (first | (go_at_call 33;refine CN.mono ?_;rintro e w12 ⟨rfl,k12⟩))
    go_ret
    exact ⟨rfl,(HF.out.trans' k12).below⟩
end Go.Proofs.Ytcbonegkfppdiaa
namespace Go.Proofs.Ytcbonegkfppdiaa
set_option maxRecDepth 100000
set_option linter.unusedVariables false
open Go.RowKit Go.Deep
theorem cells_node:Try.prog.cellsOf 47=5:=by kernel_rfl
theorem bytes_node:Try.prog.bytesOf 47=56:=by kernel_rfl
theorem cells_boolT:Try.prog.cellsOf 4=1:=by kernel_rfl
theorem cells_intsT:Try.prog.cellsOf 31=1:=by kernel_rfl
def NdI (x:Nd):Prop:=I64 x.1∧(∀ z∈x.2.1,I64 z)∧I64 x.2.2.1∧I64 x.2.2.2.2
section
variable {H : Type} {enc : TypeId × Value → H} {w : World} {spare : Nat → Bool} {held : Bool}
theorem weightsAll_mem11 {P:Program} {e:TypeId} {l:List (DataW H)} {d:DataW H} (h:d∈l) {n:Nat} (hn:n∈d.weights P e):n∈DataW.weightsAll P e l:=by
 induction l with
 | nil=>cases h
 | cons x r ih=>
  simp only [DataW.weightsAll,List.mem_append]
  rcases List.mem_cons.1 h with q | q
  ·subst q;exact .inl hn
  ·exact .inr (ih q)
set_option maxRecDepth 100000 in
theorem open_elems11 {t e c fuel:Nat} {ao:Option Addr} {len cap:Nat} {x:DataW H × List MemPlace} (ht:Try.prog.underlying t=some (.slice e)) (hc:Try.prog.cellsOf e=c) (h0:0<c) (h:DataW.trod enc Try.prog w 0 spare held fuel t [.slice ao len cap]=some x) (hw:∀ n∈x.1.weights Try.prog t,n≤reachBytes) :
  (ao=none∧len=0∧cap=0)∨∃ a,ao=some a∧len≤cap∧cap≤maxLen∧len * Try.prog.bytesOf e≤reachBytes∧∀ i,i<len→a=⟨a.block,a.off,none⟩∧a.block<w.heap.size∧∃ cs n y,cs.length=c∧(∀ j,j<c→w.cell? ⟨a.block,a.off+i * c+j,none⟩=cs[j]?)∧DataW.trod enc Try.prog w 0 spare held n e cs=some y∧∀ n∈y.1.weights Try.prog e,n≤reachBytes:=by
 rcases open_slice ht h with ⟨hcs,_⟩ | ⟨a,len', cap', m,n,D,Pl,hcs,_,hl,hm,hmm,rfl,hx⟩
 ·simp at hcs;exact .inl ⟨hcs.1,hcs.2.1,hcs.2.2⟩
 ·simp at hcs
  obtain ⟨rfl,rfl,rfl⟩:=hcs
  have hb:len * Try.prog.bytesOf e≤reachBytes:=by
   have:=hw ((((List.range len).map D).length+((List.range (m-len)).map fun j=>D (len+j)).length) * Try.prog.bytesOf e) (by simp [DataW.weights,ht])
   refine Nat.le_trans (Nat.mul_le_mul_right _ ?_) this
   simp
  refine .inr ⟨a,rfl,hl,hm,hb,fun i hi=>?_⟩
  have hmi:i<m:=by rw [hmm];split <;> omega
  have hm0:0<m:=by omega
  obtain ⟨cs0,g0,_⟩:=hx 0 hm0
  rw [hc] at g0
  obtain ⟨_,gl,gc⟩:=World.cells?_some g0
  have hsp:a.spot=none:=by
   have:=gc 0 h0
   have hv:cs0[0]? = some (cs0[0]'(by omega)):=List.getElem?_eq_getElem (by omega)
   rw [hv] at this
   simp [Addr.add] at this
   exact World.cell?_spot this
  have hlt:a.block<w.heap.size:=World.cells?_block (by simpa [Addr.add] using g0) h0
  have ea:a=⟨a.block,a.off,none⟩:=by cases a;simp_all
  obtain ⟨cs,g1,g2⟩:=hx i hmi
  rw [hc] at g1
  obtain ⟨_,gl1,gc1⟩:=World.cells?_some g1
  refine ⟨ea,hlt,cs,n,_,gl1,fun j hj=>?_,g2,fun k hk=>hw k ?_⟩
  ·rw [← gc1 j hj,add_add]
   congr 1
   unfold Addr.add
   split
   ·rw [ea];simp;omega
   ·simp
  ·simp only [DataW.weights,ht,List.mem_cons,List.mem_append]
   exact .inr (.inl (weightsAll_mem11 (List.mem_map.2 ⟨i,by simpa using hi,rfl⟩) hk))
theorem trod_node {fuel:Nat} {cs:List Value} {x:DataW H × List MemPlace} (hl:cs.length=5) (h:DataW.trod enc Try.prog w 0 spare held fuel 47 cs=some x) (hw:∀ n∈x.1.weights Try.prog 47,n≤reachBytes):∃ (y:Nd) (xo:Option Addr) (xc:Nat),NdI y∧Arg w xo y.2.1 xc∧cs=[.int .i64 y.1,.slice xo y.2.1.length xc,.int .i64 y.2.2.1,.bool y.2.2.2.1,.int .i64 y.2.2.2.2]:=by
 obtain ⟨y0,y1,y2,y3,y4,n', hyd,hl', g0,g1,g2,g3,g4⟩:=trod_struct5 Try.underlying47 h
 match cs,hl with
 | [c0,c1,c2,c3,c4],_=>
  simp only [cells_int,cells_boolT,cells_intsT,List.drop_zero,List.take_succ_cons,List.take_zero,List.drop_succ_cons] at g0 g1 g2 g3 g4
  obtain ⟨z0,e0,_,w0⟩:=DataW.trod_int Try.underlying3 g0
  obtain ⟨z2,e2,_,w2⟩:=DataW.trod_int Try.underlying3 g2
  obtain ⟨z3,e3,_⟩:=DataW.trod_bool Try.underlying4 g3
  obtain ⟨z4,e4,_,w4⟩:=DataW.trod_int Try.underlying3 g4
  have hyw1:∀ n∈y1.1.weights Try.prog 31,n≤reachBytes:=fun n hn=>hw n (by
   rw [hyd]
   simp only [DataW.weights,Try.underlying47]
   simp [DataW.weightsEach,hn])
  obtain ⟨xo,len,xc,e1⟩:=slice_one Try.underlying31 g1
  subst e1
  obtain ⟨xs,hxl,hxa,hxi⟩:=open_ints64 Try.underlying31 g1 hyw1
  subst hxl
  simp only [List.cons.injEq,and_true] at e0 e2 e3 e4
  subst e0 e2 e3 e4
  exact ⟨(z0,xs,z2,z3,z4),xo,xc,⟨i64_wf w0,hxi,i64_wf w2,i64_wf w4⟩,hxa,rfl⟩
theorem open_nodes {fuel:Nat} {ao:Option Addr} {len cap:Nat} {x:DataW H × List MemPlace} (h:DataW.trod enc Try.prog w 0 spare held fuel 32 [.slice ao len cap]=some x) (hw:∀ n∈x.1.weights Try.prog 32,n≤reachBytes) :
  ∃ l:List Nd,l.length=len∧NsW w ao l∧len * 56≤140737488351232∧len≤cap∧(ao=none→len=0∧cap=0)∧∀ y∈l,NdI y:=by
 rcases open_elems11 Try.underlying32 cells_node (by omega) h hw with ⟨rfl,rfl,rfl⟩ | ⟨a,rfl,hl1,hl2,hsz,hall⟩
 ·exact ⟨[],rfl,.inl rfl,by omega,Nat.le_refl _,fun _=>⟨rfl,rfl⟩,by simp⟩
 ·rw [bytes_node] at hsz
  have each:∀ i,i<len→∃ y:Nd,NdI y∧∃ xo xc,w.cell? ⟨a.block,a.off+i * 5,none⟩=some (.int .i64 y.1)∧w.cell? ⟨a.block,a.off+i * 5+1,none⟩=some (.slice xo y.2.1.length xc)∧w.cell? ⟨a.block,a.off+i * 5+2,none⟩=some (.int .i64 y.2.2.1)∧w.cell? ⟨a.block,a.off+i * 5+3,none⟩=some (.bool y.2.2.2.1)∧w.cell? ⟨a.block,a.off+i * 5+4,none⟩=some (.int .i64 y.2.2.2.2)∧Arg w xo y.2.1 xc:=by
   intro i hi
   obtain ⟨_,_,cs,n,y,hl,hcell,hy,hyw⟩:=hall i hi
   obtain ⟨z,xo,xc,h1,h2,rfl⟩:=trod_node hl hy hyw
   exact ⟨z,h1,xo,xc,by simpa using hcell 0 (by omega),by simpa using hcell 1 (by omega),by simpa using hcell 2 (by omega),by simpa using hcell 3 (by omega),by simpa using hcell 4 (by omega),h2⟩
  obtain ⟨f,hf⟩:=Classical.axiomOfChoice (fun i:Fin len=>each i i.2)
  refine ⟨List.ofFn f,by simp,?_,by simpa [reachBytes] using hsz,hl1,(fun e=>by cases e),fun y hy=>?_⟩
  ·by_cases h0:len=0
   ·subst h0;exact .inl (by simp)
   ·obtain ⟨ea,hlt,_⟩:=hall 0 (by omega)
    refine .inr ⟨a.block,a.off,by rw [← ea],hlt,fun i hi=>?_⟩
    have hi' : i<len:=by simpa using hi
    simpa using (hf ⟨i,hi'⟩).2
  ·obtain ⟨i,rfl⟩:=List.mem_ofFn.1 hy
   exact (hf i).1
end
end Go.Proofs.Ytcbonegkfppdiaa
