import Derived.Test.YtpimndkhoalaeaaGreatGS09
import Derived.Deep.DeepAppendWide
import Derived.Test.YtpimndkhoalaeaaGreatGS06
import Derived.Test.YtpimndkhoalaeaaGreatGS07
import Derived.Test.YtpimndkhoalaeaaGreatGS04
import Derived.Test.YtpimndkhoalaeaaGreatGS02
namespace Go.Proofs.YtpimndkhoalaeaaGreat
set_option maxRecDepth 100000
set_option linter.unusedVariables false
open Go.RowKit
attribute [local go_sem ↓] Go.wp_at_zero Go.wp_at_succ
theorem wpList_moreW {w0:World} {ops:Array Oper} {rest:List Oper} {o:Oper} {a:Act} {Q:Exit→Act→World→Prop} (hgd:o.guard=none) (s x:Operand) (t:TypeId)
  (ho:o.op=.call { callee:=.builtin .append,args:=#[s,x],argTypes:=#[t,t] }) (ht:Tryz.prog.underlying t=some (.slice 3))
  (base:Nat) (xs:List Int) (v:Value) (hs:a.eval s=v) (hr:Row base w0 v xs) (ys:List Int) (ao:Option Addr) (m c:Nat) (hx:a.eval x=.slice ao m c) (hm:m=ys.length) (hy:IntsAt w0 ao ys) (hnil:ao=none→ys.length=0∧c=0) (hb:base≤w0.heap.size) (hsz:xs.length+ys.length≤20000000000000)
  (h:∀ v' w', Row base w' v' (xs++ys)→Kept (fun k=>v.ownBlock=some k) w0 w' → wpList Tryz.prog ops Q rest (a.put o.dst v') w') :
  wpList Tryz.prog ops Q (o :: rest) a w0:=by
 subst hm
 obtain ⟨i,hi,hz0,hz1,hz2⟩:=info_parts info_intT
 cases ao with
 | none=>
  obtain ⟨h1,rfl⟩:=hnil rfl
  have:ys=[]:=List.eq_nil_of_length_eq_zero h1
  subst this
  exact wpList_append_own_none hgd s x t ho base 3 i 1 ht hi v xs.length (iv xs) hs hr hx (h v w0 (by simpa using hr) (Kept.refl _ _))
 | some ad=>
  by_cases h0:ys=[]
  ·subst h0
   refine wpList_append_own_wide _ hgd s x t ho base 3 i (.int .i64 0) 1 8 ht hi hz0 hz1 hz2 rfl (by decide) v xs.length (iv xs) hs hr ad 0 c [] hx rfl (fun j u hj=>by simp at hj) (fun u hu=>by cases hu) (by unfold maxLen;omega) (by simp at hsz;omega) hb ?_
   intro v' w' hown hgrow _
   exact h v' w' (by simpa [Row] using hown) (Kept.grown (Kept.refl _ w0) hgrow (fun _ e _=>e))
  ·have hy' : ∀ j u,(iv ys)[j]? = some u→w0.cell? (ad.add j)=some u:=by
    have hpos:0<(iv ys).length:=by rw [iv_length];exact List.length_pos_iff.2 h0
    obtain ⟨ad', e,hh⟩:=hy.src hpos
    cases e
    exact hh
   refine wpList_append_own_wide _ hgd s x t ho base 3 i (.int .i64 0) 1 8 ht hi hz0 hz1 hz2 rfl (by decide) v xs.length (iv xs) hs hr ad ys.length c (iv ys) hx (by simp [iv_length]) hy' (iv_oneCell ys) (by unfold maxLen;omega) (by omega) hb ?_
   intro v' w' hown hgrow _
   refine h v' w' ?_ (Kept.grown (Kept.refl _ w0) hgrow (fun _ e _=>e))
   unfold Row;rw [iv_append,List.length_append];exact hown
def lenV:Value→Nat
 | .slice _ n _=>n
 | _=>0
def UnQ (l:List Nd) (fr:List Int) (w:World) (e:Ending) (w' : World):Prop:=
 ∃ mb s,e=.returned (.slice (some ⟨mb,0,none⟩) l.length l.length)∧w.heap.size≤mb∧w'.ownsRow mb 4 1 (.slice (some ⟨mb,0,none⟩) l.length l.length) l.length (bv s)∧(∀ x,Mk s x ↔ ∃ f∈fr,Rc l f.toNat x)∧Same0 w w'
set_option maxHeartbeats 2000000 in
theorem under_any {w:World} {ao fo:Option Addr} {ac fc:Nat} {l:List Nd} {fr:List Int} (h:NsW w ao l) (hf:Arg w fo fr fc) (hr:∀ z∈fr,0≤z∧z<(l.length:Int)) (hin:InL l) (few:∀ x∈l,x.2.1.length≤6) (hN:l.length≤4000) (hfr:fr.length≤17592186044416) :
  Calls Tryz.prog 59 #[.slice ao l.length ac,.slice fo fr.length fc] w fun e w' => UnQ l fr w e w' := by
 obtain ⟨i,hi,hz0,hz1,hz2⟩:=info_parts info_boolT
 have HL:Hid (∀ ww,Same0 w ww→NsW ww ao l):=fun ww hk=>h.same hk
 have HI:Hid (InL l):=hin
 have HW:Hid (∀ x∈l,x.2.1.length≤6):=few
 have HU0:Hid (Un l fr (List.replicate l.length false) fr):=Un.start hr
 have HFR:Hid (fr.length≤17592186044416):=hfr
 obtain ⟨N,hNe⟩:∃ N,N=l.length:=⟨_,rfl⟩
 have HNE:Hid (N=l.length):=hNe
 have HQ:Hid (∀ e w', (∃ mb s,e=.returned (.slice (some ⟨mb,0,none⟩) N N)∧w.heap.size≤mb∧w'.ownsRow mb 4 1 (.slice (some ⟨mb,0,none⟩) N N) N (bv s)∧(∀ x,Mk s x ↔ ∃ f∈fr,Rc l f.toNat x)∧Same0 w w')→UnQ l fr w e w'):=fun e w' hq=>by rw [hNe] at hq;exact hq
 rw [← hNe] at hN HU0 ⊢
 have i5:(0:Int)≤(N:Int):=by omega
 have HCF:Hid (∀ ww,Same0 w ww→Arg ww fo fr fc):=fun ww hk=>hf.onto hk
 clear h hin few hNe hf hr hfr
 go_enter Tryz.func59,Tryz.ntmps59
 go_upto_region 2 with (first | (at_make;refine wpList_make_full _ rfl _ _ 128 rfl w.heap.size 4 i _ 1 Tryz.underlying128 hi hz0 hz1 _ _ _ _ N rfl rfl rfl rfl (by rw [hz2];omega) (by unfold maxLen;omega) (Nat.le_refl _) ?_;intro w1 hown hgrow))
 rw [made_bools] at hown
 have K1:Same0 w w1:=Same0.grown (Kept.refl _ w) hgrow
 obtain ⟨mb,hmb⟩:∃ mb,mb=w.heap.size:=⟨_,rfl⟩
 have hlo:w.heap.size≤mb:=by omega
 have hmb1:mb<w1.heap.size:=by rw [hmb];exact (hown.lt w.heap.size rfl).2
 rw [← hmb] at hown ⊢
 have HR1:Hid (w1.ownsRow mb 4 1 (.slice (some ⟨mb,0,none⟩) N N) N (bv (List.replicate N false))):=hown
 have CC:=rcopied_row (HCF.out w1 K1)
 clear hmb hown hgrow hz0 hz1 hz2 hi HCF
 go_upto_region 3 with (first | (go_at_call 86;refine CC.mono ?_;rintro e w2 ⟨v2,rfl,hr2,k2⟩))
 have HR2:Hid (w2.ownsRow mb 4 1 (.slice (some ⟨mb,0,none⟩) N N) N (bv (List.replicate N false))):=k2.row HR1.out (fun _ _ f=>f)
 have HT2:Hid (Row (mb+1) w2 v2 fr):=row_mono hr2 hmb1
 have K2:=K1.trans' k2
 have hmb2:mb<w2.heap.size:=Nat.lt_of_lt_of_le hmb1 k2.size
 clear CC hr2 k2 K1 HR1 hmb1
 go_loopw [6] (fun tv wr=>∃ (s:List Bool) (T:List Int),Hid (wr.ownsRow mb 4 1 (.slice (some ⟨mb,0,none⟩) N N) N (bv s))∧Hid (Row (mb+1) wr tv T)∧Hid (Un l fr s T)∧Same0 w wr∧mb<wr.heap.size) (fun tv wr=>7 * falses wr mb N+lenV tv)
 case atStart=>exact ⟨_,fr,HR2,HT2,HU0,K2,hmb2⟩
 case round=>
  clear K2 HR2 HT2 HU0 hmb2
  obtain ⟨s,T,HR,HT,HU,hw,hmb1⟩:=hrel
  obtain ⟨vo,vc,e⟩:=row_shape HT.out
  subst e
  have HFO:Hid (falses wr mb N=s.count false):=falses_row HR.out
  rcases List.eq_nil_or_concat T with e | ⟨T', z,e⟩
  ·subst e
   have HD:Hid (∀ x,Mk s x ↔ ∃ f∈fr,Rc l f.toNat x):=HU.out.done
   go_wp2
   go_ret
   exact HQ.out _ _ ⟨mb,s,rfl,hlo,HR.out,HD.out,hw⟩
  ·rw [List.concat_eq_append] at e
   subst e
   have hz:=HU.out.rng z (by simp)
   obtain ⟨x,hx⟩:∃ x:Nat,z=(x:Int):=⟨z.toNat,by omega⟩
   subst hx
   have hxl:x<l.length:=by omega
   have hxN:x<N:=by rw [HNE.out];exact hxl
   have el:(T' ++ [(x:Int)]).length=T'.length+1:=by simp
   rw [el] at HT ⊢
   obtain ⟨g,e1,hg,cz,hrT,hcap⟩:=Row.last HT.out
   subst e1
   have HTL:Hid (T'.length+1≤17592186068417):=by
    have h1:=HU.out.cnt
    have h2:=HFR.out
    have h3:=HNE.out
    rw [el] at h1
    show _≤_
    omega
   have j1:(0:Int)≤(T'.length:Int):=by omega
   have j2:(T'.length:Int)<(T'.length:Int)+1:=by omega
   have j3:(T'.length:Int)≤(vc:Int):=by omega
   have j4:(0:Int)≤(x:Int):=by omega
   have j5:(x:Int)<(N:Int):=by omega
   have j6:(0:Int)<(T'.length:Int)+1:=by omega
   have j7:(T'.length:Int)≤17592186068417:=by have:=HTL.out;omega
   have HRT:Hid (Row (mb+1) wr (.slice (some ⟨g,0,none⟩) T'.length vc) T'):=hrT
   obtain ⟨b,hb1,hb2,hb3⟩:=row_bool HR.out hxN
   have HB:Hid (s[x]? = some b):=hb1
   clear hb1 hrT hz el
   cases b
   ·obtain ⟨W4,hW4⟩:∃ W4,W4=wr.setCell ⟨mb,x,none⟩ (.bool true):=⟨_,rfl⟩
    have hxs:x<s.length:=(List.getElem?_eq_some_iff.1 HB.out).1
    have K4:Kept (fun k=>k=mb) wr W4:=by rw [hW4];exact Kept.setCell (S:=fun k=>k=mb) (Kept.refl _ _) (p:=⟨mb,x,none⟩) (fun _=>rfl) _
    have hw4:Same0 w W4:=by rw [hW4];exact hw.own hlo _
    have hr4:W4.ownsRow mb 4 1 (.slice (some ⟨mb,0,none⟩) N N) N (bv (s.set x true)):=by rw [hW4,bv_set];exact (HR.out.stored x _).1
    have ht4:Row (mb+1) W4 (.slice (some ⟨g,0,none⟩) T'.length vc) T' := K4.row HRT.out (fun k e q=>by have:g=k:=Option.some.inj e;omega)
    have HMS:Hid (∀ ww,ww.ownsRow mb 4 1 (.slice (some ⟨mb,0,none⟩) N N) N (bv (s.set x true))→falses ww mb N+1=falses wr mb N):=fun ww hq=>by
     rw [falses_row hq,HFO.out];exact count_set HB.out
    rcases HL.out W4 hw4 with e | ⟨nb,noff,e,hnb,hn⟩
    ·rw [e] at hxl;simp at hxl
    subst e
    obtain ⟨xo,xc,n0,n1,n2,n3,n4,n5⟩:=hn x hxl
    have CD:=down_arg n5
    have dl:(downL l[x]).length≤6:=by have:=HW.out _ (List.getElem_mem hxl);unfold downL;split <;> (simp;try omega)
    have HUN:Hid (Un l fr (s.set x true) (T' ++ downL l[x])):=HU.out.take HB.out hxl dl HI.out
    have hmb4:mb+1≤W4.heap.size:=Nat.lt_of_lt_of_le hmb1 K4.size
    have HR4:Hid (W4.ownsRow mb 4 1 (.slice (some ⟨mb,0,none⟩) N N) N (bv (s.set x true))):=hr4
    have HT4:Hid (Row (mb+1) W4 (.slice (some ⟨g,0,none⟩) T'.length vc) T'):=ht4
    have k1:(x:Int)<(l.length:Int):=by omega
    generalize downL l[x]=D at *
    clear n5 hn HU HR HT HFO HB K4 hr4 ht4
    go_upto_region 8 with fail
    rw [← hW4]
    clear hW4 hb2 hb3 cz
    go_wp2_with (first | (go_at_call 87;refine CD.mono ?_;rintro e w5 ⟨bo,bc,rfl,hD,hnil,k5⟩;have ht5:Row (mb+1) w5 (.slice (some ⟨g,0,none⟩) T'.length vc) T' := k5.row HT4.out (fun _ _ f=>f);have hz5:mb+1≤w5.heap.size:=Nat.le_trans hmb4 k5.size) | (at_builtin;refine wpList_moreW rfl _ _ 33 rfl Tryz.underlying33 (mb+1) T' _ rfl ht5 D _ _ _ rfl rfl hD hnil hz5 (by omega) ?_;intro v6 w6 hr6 hk6))
    have HR6:Hid (w6.ownsRow mb 4 1 (.slice (some ⟨mb,0,none⟩) N N) N (bv (s.set x true))):=hk6.row (k5.row HR4.out (fun _ _ f=>f)) (fun k e q=>by
     have h1:mb=k:=Option.some.inj e
     have h2:g=k:=Option.some.inj q
     omega)
    have HT6:Hid (Row (mb+1) w6 v6 (T' ++ D)):=hr6
    have hw6:Same0 w w6:=(hw4.trans' k5).trans hk6 (fun k hk e=>by have h2:g=k:=Option.some.inj e;omega)
    have hmb6:mb<w6.heap.size:=Nat.lt_of_lt_of_le hz5 hk6.size
    obtain ⟨vo6,vc6,e6⟩:=row_shape hr6
    subst e6
    have HM6:=HMS.out w6 HR6.out
    have hle6:(T' ++ D).length≤T'.length+6:=by simp;omega
    clear hr6 hk6 ht5 hD hnil CD n0 n1 n2 n3 n4
    go_roundw
    case rel=>exact ⟨_,_,HR6,HT6,HUN,hw6,hmb6⟩
    case measure=>simp only [lenV];omega
   ·have hmk:Mk s x:=HB.out
    have HUN:Hid (Un l fr s T'):=HU.out.skip hmk
    clear hmk HU HFO
    go_wp2
    go_roundw
    case rel=>exact ⟨s,T', HR,HRT,HUN,hw,hmb1⟩
    case measure=>simp [lenV]
theorem NCl.put {B:Nat→Prop} {w:World} {vs vs' : List Value} {l:List Nd} (h:NCl B w vs l) {i:Nat} (hi:i<l.length) (hl:vs'.length=vs.length) (old:∀ o,o<i * 5∨i * 5+5≤o→vs'[o]? = vs[o]?) {x:Nd} {ao:Option Addr} {ac:Nat}
  (n0:vs'[i * 5]? = some (.int .i64 x.1)) (n1:vs'[i * 5+1]? = some (.slice ao x.2.1.length ac)) (n2:vs'[i * 5+2]? = some (.int .i64 x.2.2.1)) (n3:vs'[i * 5+3]? = some (.bool x.2.2.2.1)) (n4:vs'[i * 5+4]? = some (.int .i64 x.2.2.2.2)) (n5:ArgT w ao x.2.1 ac) (n6:∀ a,ao=some a→B a.block):NCl B w vs' (l.set i x):=by
 refine ⟨by rw [hl,h.1];simp,fun j hj=>?_⟩
 have hj' : j<l.length:=by simpa using hj
 by_cases e:j=i
 ·subst e
  rw [List.getElem_set_self]
  exact ⟨ao,ac,n0,n1,n2,n3,n4,n5,n6⟩
 ·rw [List.getElem_set_ne (by omega)]
  obtain ⟨bo,bc,m0,m1,m2,m3,m4,m5,m6⟩:=h.2 j hj'
  exact ⟨bo,bc,(old _ (by omega)).trans m0,(old _ (by omega)).trans m1,(old _ (by omega)).trans m2,(old _ (by omega)).trans m3,(old _ (by omega)).trans m4,m5,m6⟩
theorem marked_ok {l:List Nd} (hmay:∀ x∈l,mayB l.length x=true) (hac:Ac l) {i:Nat} (hi:i<l.length) {m:Int} (hm:0≤m∧m≤2) (hp:l[i].2.2.2.1=true→m=0):(∀ x∈l.set i (marked l[i] m),mayB (l.set i (marked l[i] m)).length x=true)∧Ac (l.set i (marked l[i] m)):=by
 refine ⟨fun x hx=>?_,?_⟩
 ·rw [List.length_set]
  rcases List.mem_or_eq_of_mem_set hx with e | e
  ·exact hmay x e
  ·subst e;exact may_marked (hmay _ (List.getElem_mem hi)) hm hp
 ·refine ac_same hac (by simp) (fun j h3 h4=>?_)
  by_cases e:j=i
  ·subst e;rw [List.getElem_set_self];rfl
  ·rw [List.getElem_set_ne (by omega)]
theorem pointed_ok {l:List Nd} (hmay:∀ x∈l,mayB l.length x=true) (hac:Ac l) {i t:Nat} (hi:i<l.length) (ht:t<l.length) (hn:¬ Rc l t i):(∀ x∈l.set i (indN t),mayB (l.set i (indN t)).length x=true)∧Ac (l.set i (indN t)):=by
 refine ⟨fun x hx=>?_,?_⟩
 ·rw [List.length_set]
  rcases List.mem_or_eq_of_mem_set hx with e | e
  ·exact hmay x e
  ·subst e;exact may_ind ht
 ·refine hac.point hn _ (fun j hj=>?_)
  unfold downL at hj
  simp at hj
  omega
theorem RhB.notg {B:Nat→Prop} {w:World} {r room:Nat} {v:Value} {l:List Nd} (p:RhB B w r room v l) {g:Nat} (e:v.ownBlock=some g):r≠g∧NotI w g:=by
 have h:=p.row.block e
 refine ⟨fun q=>?_,h.2.2⟩
 obtain ⟨vs,h1,_⟩:=p.row
 rcases h1.2 with ⟨rfl,_⟩ | ⟨g', cap,cur,rfl,hb,hg,_⟩
 ·cases e
 ·obtain rfl:g' = g:=Option.some.inj e
  rw [← q,p.box] at hg
  cases hg
theorem RhB.marked {B:Nat→Prop} {w:World} {r room g cap:Nat} {l:List Nd} (p:RhB B w r room (.slice (some ⟨g,0,none⟩) l.length cap) l) {i:Nat} (hi:i<l.length) {m:Int} (hm:0≤m∧m≤2) (hp:l[i].2.2.2.1=true→m=0) :
  RhB B (w.setCell ⟨g,i * 5+2,none⟩ (.int .i64 m)) r room (.slice (some ⟨g,0,none⟩) l.length cap) (l.set i (YtpimndkhoalaeaaGreat.marked l[i] m))∧Kept (fun k=>k=g) w (w.setCell ⟨g,i * 5+2,none⟩ (.int .i64 m)):=by
 have K:Kept (fun k=>k=g) w (w.setCell ⟨g,i * 5+2,none⟩ (.int .i64 m)):=Kept.setCell (S:=fun k=>k=g) (Kept.refl _ _) (p:=⟨g,i * 5+2,none⟩) (fun _=>rfl) _
 obtain ⟨hne,hni⟩:=p.notg rfl
 obtain ⟨ok1,ok2⟩:=marked_ok p.may p.ac hi hm hp
 obtain ⟨vs,h1,h2⟩:=p.row
 have hl:=h2.1
 have S:=(h1.stored (i * 5+2) (.int .i64 m)).1
 have h2' := h2.kept K (fun k _ e=>by rw [e];exact hni)
 obtain ⟨ao,ac,n0,n1,n2,n3,n4,n5,n6⟩:=h2'.2 i hi
 have old:∀ o,o≠i * 5+2→(vs.set (i * 5+2) (.int .i64 m))[o]? = vs[o]? := fun o ho=>List.getElem?_set_ne (by omega)
 have C:=h2'.put hi (vs' := vs.set (i * 5+2) (.int .i64 m)) (x:=YtpimndkhoalaeaaGreat.marked l[i] m) (ao:=ao) (ac:=ac) (by simp) (fun o ho=>old o (by omega)) ((old _ (by omega)).trans n0) ((old _ (by omega)).trans n1) (List.getElem?_set_self (by omega)) ((old _ (by omega)).trans n3) ((old _ (by omega)).trans n4) n5 n6
 exact ⟨⟨K.at p.box hne,⟨_,by simpa using S,C⟩,p.rm1,p.rm2,by simpa using p.le,ok1,ok2⟩,K⟩
theorem RhB.pointed {B:Nat→Prop} {w:World} {r room g cap:Nat} {l:List Nd} (p:RhB B w r room (.slice (some ⟨g,0,none⟩) l.length cap) l) {i t:Nat} (hi:i<l.length) (ht:t<l.length) (hn:¬ Rc l t i) :
  RhB B (put5 w g (i * 5) (.int .i64 0) (.slice none 0 0) (.int .i64 0) (.bool true) (.int .i64 (t:Int))) r room (.slice (some ⟨g,0,none⟩) l.length cap) (l.set i (indN t))∧Kept (fun k=>k=g) w (put5 w g (i * 5) (.int .i64 0) (.slice none 0 0) (.int .i64 0) (.bool true) (.int .i64 (t:Int))):=by
 have K:=put5_kept w g (i * 5) (.int .i64 0) (.slice none 0 0) (.int .i64 0) (.bool true) (.int .i64 (t:Int))
 obtain ⟨hne,hni⟩:=p.notg rfl
 obtain ⟨ok1,ok2⟩:=pointed_ok p.may p.ac hi ht hn
 obtain ⟨vs,h1,h2⟩:=p.row
 have hl:=h2.1
 have S:=(((((h1.stored (i * 5) (.int .i64 0)).1.stored (i * 5+1) (.slice none 0 0)).1.stored (i * 5+2) (.int .i64 0)).1.stored (i * 5+3) (.bool true)).1.stored (i * 5+4) (.int .i64 (t:Int))).1
 have h2' := h2.kept K (fun k _ e=>by rw [e];exact hni)
 have hb:i * 5+5≤vs.length:=by omega
 have C:=h2'.put hi (vs' := ((((vs.set (i * 5) (.int .i64 0)).set (i * 5+1) (.slice none 0 0)).set (i * 5+2) (.int .i64 0)).set (i * 5+3) (.bool true)).set (i * 5+4) (.int .i64 (t:Int))) (x:=indN t) (ao:=none) (ac:=0) (by simp)
  (fun o ho=>by rw [List.getElem?_set_ne (by omega),List.getElem?_set_ne (by omega),List.getElem?_set_ne (by omega),List.getElem?_set_ne (by omega),List.getElem?_set_ne (by omega)])
  (by rw [List.getElem?_set_ne (by omega),List.getElem?_set_ne (by omega),List.getElem?_set_ne (by omega),List.getElem?_set_ne (by omega)];exact List.getElem?_set_self (by omega))
  (by rw [List.getElem?_set_ne (by omega),List.getElem?_set_ne (by omega),List.getElem?_set_ne (by omega)];exact List.getElem?_set_self (by simp;omega))
  (by rw [List.getElem?_set_ne (by omega),List.getElem?_set_ne (by omega)];exact List.getElem?_set_self (by simp;omega))
  (by rw [List.getElem?_set_ne (by omega)];exact List.getElem?_set_self (by simp;omega))
  (List.getElem?_set_self (by simp;omega)) (ArgT.nil _) (fun a e=>by cases e)
 exact ⟨⟨K.at p.box hne,⟨_,by rw [List.length_set];exact S,C⟩,p.rm1,p.rm2,by simpa using p.le,ok1,ok2⟩,K⟩
theorem RhB.has {B:Nat→Prop} {w:World} {r room:Nat} {v:Value} {l:List Nd} (p:RhB B w r room v l) (a:Int):Calls Tryz.prog 52 #[.pointer (some ⟨r,0,none⟩),.int .i64 a] w fun e w' => e=.returned (.bool (hasB l.length a))∧w' = w:=by
 obtain ⟨ao,cap,rfl⟩:=p.row.shape
 exact rhas_any p.cells.2 (by unfold maxLen;have:=p.le;have:=p.rm2;omega) a
theorem RhB.open {B:Nat→Prop} {w:World} {r room:Nat} {v:Value} {l:List Nd} (p:RhB B w r room v l) {i:Nat} (hi:i<l.length):∃ g cap,v=.slice (some ⟨g,0,none⟩) l.length cap∧(∀ o,w.frozen? ⟨g,o,none⟩=false)∧∃ xo xc,w.cell? ⟨g,i * 5,none⟩=some (.int .i64 l[i].1)∧w.cell? ⟨g,i * 5+1,none⟩=some (.slice xo l[i].2.1.length xc)∧w.cell? ⟨g,i * 5+2,none⟩=some (.int .i64 l[i].2.2.1)∧w.cell? ⟨g,i * 5+3,none⟩=some (.bool l[i].2.2.2.1)∧w.cell? ⟨g,i * 5+4,none⟩=some (.int .i64 l[i].2.2.2.2):=by
 obtain ⟨vs,h1,h2⟩:=p.row
 have h1' := h1
 rcases h1.2 with ⟨_,h0⟩ | ⟨g,cap,cur,rfl,hb,hg,_⟩
 ·omega
 ·obtain ⟨ao,ac,g0,g1,g2,g3,g4,_,_⟩:=h2.2 i hi
  have t:∀ j u,vs[j]? = some u→w.cell? ⟨g,j,none⟩=some u:=fun j u hj=>by
   have:=h1'.cells (g:=g) rfl j u hj
   by_cases q:j=0
   ·subst q;simpa [Addr.add] using this
   ·simpa [Addr.add,q] using this
  exact ⟨g,cap,rfl,fun o=>frozenAt hg o,ao,ac,t _ _ g0,t _ _ g1,t _ _ g2,t _ _ g3,t _ _ g4⟩
set_option maxHeartbeats 1000000 in
theorem rmark_out {B:Nat→Prop} {w:World} {r room:Nat} {v:Value} {l:List Nd} (p:RhB B w r room v l) (a m:Int) (ha:¬ (0≤a∧a<(l.length:Int))):Calls Tryz.prog 28 #[.pointer (some ⟨r,0,none⟩),.int .i64 a,.int .i64 m] w fun e w' => e=.returned (.int .i64 112)∧w' = w:=by
 have C:=p.has a
 rw [hasB_no ha] at C
 clear p ha
 go_enter Tryz.func28,Tryz.ntmps28
 go_wp2_with (first | (go_at_call 52;refine C.mono ?_;rintro e w' ⟨rfl,h'⟩;have h' := h'.symm;subst h'))
 go_ret
 exact ⟨rfl,rfl⟩
set_option maxHeartbeats 2000000 in
theorem rmark_in {B:Nat→Prop} {w:World} {r room:Nat} {v:Value} {l:List Nd} (p:RhB B w r room v l) (i:Nat) (hi:i<l.length) (m:Int):Calls Tryz.prog 28 #[.pointer (some ⟨r,0,none⟩),.int .i64 (i:Int),.int .i64 m] w fun e w' =>
  (markE l (i:Int) m≠0∧e=.returned (.int .i64 (markE l (i:Int) m))∧w' = w)∨(markE l (i:Int) m=0∧e=.returned (.int .i64 0)∧RhB B w' r room v (l.set i (marked l[i] m))∧Kept (fun k=>v.ownBlock=some k) w w'):=by
 have C:=p.has (i:Int)
 rw [hasB_yes (by omega)] at C
 obtain ⟨g,cap,rfl,ff,xo,xc,n0,n1,n2,n3,n4⟩:=p.open hi
 have c1:=p.cells.2
 have f2:=ff (i * 5+2)
 have i1:(0:Int)≤(i:Int):=by omega
 have i2:(i:Int)<(l.length:Int):=by omega
 obtain ⟨pb,hp⟩:∃ pb,l[i].2.2.2.1=pb:=⟨_,rfl⟩
 cases pb
 ·rw [hp] at n3
  by_cases hm:0≤m∧m≤2
  ·obtain ⟨M1,M2⟩:=p.marked hi hm (by rw [hp];intro h;cases h)
   have H:Hid (markE l (i:Int) m=0∧RhB B (w.setCell ⟨g,i * 5+2,none⟩ (.int .i64 m)) r room (.slice (some ⟨g,0,none⟩) l.length cap) (l.set i (marked l[i] m))∧Kept (fun k=>(Value.slice (some ⟨g,0,none⟩) l.length cap).ownBlock=some k) w (w.setCell ⟨g,i * 5+2,none⟩ (.int .i64 m))):=⟨by rw [markE,if_neg (by omega)];simp [hi,hp,hm],M1,M2.mono (fun k _ e=>by rw [e];rfl)⟩
   obtain ⟨m1,m2⟩:=hm
   have m3:¬ m<0:=by omega
   have m4:¬ (2:Int)<m:=by omega
   clear p hp M1 M2 n0 n1 n4 ff
   go_enter Tryz.func28,Tryz.ntmps28
   go_wp2_with (first | (go_at_call 52;refine C.mono ?_;rintro e w' ⟨rfl,h'⟩;have h' := h'.symm;subst h'))
   go_ret
   obtain ⟨q1,q2,q3⟩:=H.out
   exact .inr ⟨q1,rfl,q2,q3⟩
  ·have H:Hid (markE l (i:Int) m=1):=by show _=_;rw [markE,if_neg (by omega)];simp [hi,hp,hm]
   clear p hp n0 n1 n2 n4 ff
   by_cases m3:m<0
   ·clear hm
    go_enter Tryz.func28,Tryz.ntmps28
    go_wp2_with (first | (go_at_call 52;refine C.mono ?_;rintro e w' ⟨rfl,h'⟩;have h' := h'.symm;subst h'))
    go_ret
    exact .inl ⟨by rw [H.out];decide,ret_int H.out.symm,rfl⟩
   ·have m4:(2:Int)<m:=by omega
    clear hm
    go_enter Tryz.func28,Tryz.ntmps28
    go_wp2_with (first | (go_at_call 52;refine C.mono ?_;rintro e w' ⟨rfl,h'⟩;have h' := h'.symm;subst h'))
    go_ret
    exact .inl ⟨by rw [H.out];decide,ret_int H.out.symm,rfl⟩
 ·rw [hp] at n3
  have H:Hid (markE l (i:Int) m=112):=by show _=_;rw [markE,if_neg (by omega)];simp [hi,hp]
  clear p hp n0 n1 n2 n4 ff
  go_enter Tryz.func28,Tryz.ntmps28
  go_wp2_with (first | (go_at_call 52;refine C.mono ?_;rintro e w' ⟨rfl,h'⟩;have h' := h'.symm;subst h'))
  go_ret
  exact .inl ⟨by rw [H.out];decide,ret_int H.out.symm,rfl⟩
set_option maxHeartbeats 1000000 in
theorem rpoint_out {B:Nat→Prop} {w:World} {r room:Nat} {v:Value} {l:List Nd} (p:RhB B w r room v l) (a t:Int) (ha:¬ ((0≤a∧a<(l.length:Int))∧0≤t∧t<(l.length:Int))):Calls Tryz.prog 26 #[.pointer (some ⟨r,0,none⟩),.int .i64 a,.int .i64 t] w fun e w' => e=.returned (.int .i64 112)∧w' = w:=by
 have C1:=p.has a
 have C2:=p.has t
 by_cases h1:0≤a∧a<(l.length:Int)
 ·rw [hasB_yes h1] at C1
  rw [hasB_no (fun h=>ha ⟨h1,h⟩)] at C2
  clear p ha h1
  go_enter Tryz.func26,Tryz.ntmps26
  go_wp2_with (first | (go_at_call 52;first | (refine C1.mono ?_;rintro e w' ⟨rfl,h'⟩;have h' := h'.symm;subst h'; clear C1) | (refine C2.mono ?_;rintro e w' ⟨rfl,h'⟩;have h' := h'.symm;subst h')))
  go_ret
  exact ⟨rfl,rfl⟩
 ·rw [hasB_no h1] at C1
  clear p ha h1 C2
  go_enter Tryz.func26,Tryz.ntmps26
  go_wp2_with (first | (go_at_call 52;refine C1.mono ?_;rintro e w' ⟨rfl,h'⟩;have h' := h'.symm;subst h'))
  go_ret
  exact ⟨rfl,rfl⟩
set_option maxHeartbeats 2000000 in
theorem rpoint_in {B:Nat→Prop} {w:World} {r room:Nat} {v:Value} {l:List Nd} (p:RhB B w r room v l) (i t:Nat) (hi:i<l.length) (ht:t<l.length):Calls Tryz.prog 26 #[.pointer (some ⟨r,0,none⟩),.int .i64 (i:Int),.int .i64 (t:Int)] w fun e w' =>
  (Rc l t i∧e=.returned (.int .i64 113)∧Same0 w w')∨(¬ Rc l t i∧e=.returned (.int .i64 0)∧RhB B w' r room v (l.set i (indN t))∧Kept (fun k=>v.ownBlock=some k) w w'):=by
 have C1:=p.has (i:Int)
 have C2:=p.has (t:Int)
 rw [hasB_yes (by omega)] at C1 C2
 obtain ⟨g,cap,rfl, -⟩:=p.open hi
 have c1:=p.cells.2
 have hle:=p.le
 have hr2:=p.rm2
 have i1:(0:Int)≤(i:Int):=by omega
 have i2:(i:Int)<(l.length:Int):=by omega
 have k1:Same0 w (w.alloc (.cells #[.int .i64 (t:Int)] 3)):=(Kept.refl _ _).alloc _
 have p1:=p.same k1
 have few:∀ x∈l,x.2.1.length≤6:=fun x hx=>(may_facts (p.may x hx)).2.1
 have CU:=under_any (ac:=cap) p1.row.mem.weak (⟨ints_one w (t:Int),by simp,(fun e=>by cases e),by simp⟩:Arg _ (some ⟨w.heap.size,0,none⟩) [(t:Int)] 1) (by intro z hz;simp at hz;subst hz;omega) p.inl few (by omega) (by simp)
 have HP:Hid (∀ ww,Same0 (w.alloc (.cells #[.int .i64 (t:Int)] 3)) ww→RhB B ww r room (.slice (some ⟨g,0,none⟩) l.length cap) l):=fun ww hk=>p1.same hk
 have HK:Hid (∀ ww,Same0 (w.alloc (.cells #[.int .i64 (t:Int)] 3)) ww→Same0 w ww):=fun ww hk=>k1.trans' hk
 simp only [List.length_cons,List.length_nil,Nat.zero_add] at CU
 clear p p1 k1 few
 go_enter Tryz.func26,Tryz.ntmps26
 go_upto_region 4 with (first | (go_at_call 52;first | (refine C1.mono ?_;rintro e w' ⟨rfl,h'⟩;have h' := h'.symm;subst h'; clear C1) | (refine C2.mono ?_;rintro e w' ⟨rfl,h'⟩;have h' := h'.symm;subst h')) | (go_at_call 59;refine CU.mono ?_;rintro e w2 ⟨mb,s,rfl,hmb,hrow,hiff,k2⟩))
 obtain ⟨b,q1,q2, -⟩:=row_bool hrow hi
 have HBR:Hid (b=true ↔ Rc l t i):=by
  have:=hiff i
  unfold Mk at this
  rw [q1] at this
  show _ ↔ _
  simpa using this
 clear CU hiff q1 c1
 cases b
 ·have hn:¬ Rc l t i:=fun q=>by have:=HBR.out.2 q;cases this
  have P2:=HP.out w2 k2
  have d1:=P2.cells.2
  obtain ⟨g', cap', e', ff,xo,xc,t0,t1,t2,t3,t4⟩:=P2.open hi
  simp only [Value.slice.injEq,Option.some.injEq,Addr.mk.injEq,and_true,true_and] at e'
  obtain ⟨rfl,rfl⟩:=e'
  have f0:=ff (i * 5)
  have f1:=ff (i * 5+1)
  have f2:=ff (i * 5+2)
  have f3:=ff (i * 5+3)
  have f4:=ff (i * 5+4)
  obtain ⟨M1,M2⟩:=P2.pointed hi ht hn
  have FF:Hid (¬ Rc l t i∧RhB B (put5 w2 g (i * 5) (.int .i64 0) (.slice none 0 0) (.int .i64 0) (.bool true) (.int .i64 (t:Int))) r room (.slice (some ⟨g,0,none⟩) l.length cap) (l.set i (indN t))∧Kept (fun k=>(Value.slice (some ⟨g,0,none⟩) l.length cap).ownBlock=some k) w (put5 w2 g (i * 5) (.int .i64 0) (.slice none 0 0) (.int .i64 0) (.bool true) (.int .i64 (t:Int)))):=⟨hn,M1,(Kept.mono (HK.out w2 k2) (fun _ _ f=>f.elim)).trans M2 (fun k _ e=>by rw [e];rfl)⟩
  clear P2 M1 M2 hn HBR HP HK ff hrow
  go_wp2
  go_ret
  obtain ⟨q1,q2,q3⟩:=FF.out
  exact .inr ⟨q1,rfl,q2,q3⟩
 ·have FF:Hid (Rc l t i∧Same0 w w2):=⟨HBR.out.1 rfl,HK.out w2 k2⟩
  clear HBR HP HK hrow
  go_wp2
  go_ret
  exact .inl ⟨FF.out.1,rfl,FF.out.2⟩
end Go.Proofs.YtpimndkhoalaeaaGreat
namespace Go.Proofs.YtpimndkhoalaeaaGreat
set_option maxRecDepth 100000
set_option linter.unusedVariables false
open Go.RowKit
structure TwG (n0:Nat) (w:World) (h g r:Nat) (v:Value) (N:List Nd):Prop where
 hp:HpB (fun _=>True) w h g 4000 N
 rh:RhB (fun _=>True) w r 4000 v N
 sep:r≠h∧r≠g∧∀ k,v.ownBlock=some k→k≠h∧k≠g∧k≠r
 lo:n0≤h∧n0≤g∧n0≤r∧∀ k,v.ownBlock=some k→n0≤k
theorem TwG.same {n0:Nat} {w w' : World} {h g r:Nat} {v:Value} {N:List Nd} (q:TwG n0 w h g r v N) (hk:Same0 w w'):TwG n0 w' h g r v N:=⟨q.hp.same hk,q.rh.same hk,q.sep,q.lo⟩
theorem RhB.rd {B:Nat→Prop} {w:World} {r:Nat} {v:Value} {N:List Nd} (p:RhB B w r 4000 v N):∃ ao cap,RdH w r N ao cap:=by
 obtain ⟨ao,cap,e⟩:=p.row.shape
 refine ⟨ao,cap,by rw [← e];exact p.cells.2,?_,p.le,inl_of_may p.may,p.ac,p.may⟩
 have:=p.row
 rw [e] at this
 exact this.mem.weak
def HdR (N:List Nd) (a s:Int) (f:Bool):Prop:=(¬ (0≤a∧a<(N.length:Int))∧s = -1∧f=false)∨∃ (i b:Nat) (hb:b<N.length),a=(i:Int)∧Res N i b∧s=N[b].1∧f=decide (0<N[b].2.2.1)
theorem HdR.uniq {N:List Nd} {a s s' : Int} {f f' : Bool} (h:HdR N a s f) (h' : HdR N a s' f'):s=s' ∧ f=f' := by
 rcases h with ⟨h1,rfl,rfl⟩ | ⟨i,b,hb,e1,e2,rfl,rfl⟩ <;> rcases h' with ⟨g1,rfl,rfl⟩ | ⟨i', b', hb', f1,f2,rfl,rfl⟩
 ·exact ⟨rfl,rfl⟩
 ·have:=f2.lt.1;exact absurd (by omega) h1
 ·have:=e2.lt.1;exact absurd (by omega) g1
 ·obtain rfl:i=i' := by omega
  obtain rfl:=e2.uniq f2
  exact ⟨rfl,rfl⟩
theorem TwG.head {n0:Nat} {w:World} {h g r:Nat} {v:Value} {N:List Nd} (q:TwG n0 w h g r v N) (a:Int):Calls Tryz.prog 21 #[.agg #[.pointer (some ⟨h,0,none⟩)],.int .i64 a] w fun e w' => ∃ s f,e=.returned (.tuple #[.int .i64 s,.bool f])∧HdR N a s f∧Same0 w w' := by
 by_cases ha:0≤a∧a<(N.length:Int)
 ·obtain ⟨i,rfl⟩:∃ i:Nat,a=(i:Int):=⟨a.toNat,by omega⟩
  exact (head_yes q.hp i (by omega)).mono (fun e w' ⟨b,hb,e1,e2,e3⟩=>⟨_,_,e1,.inr ⟨i,b,hb,rfl,e2,rfl,rfl⟩,e3⟩)
 ·exact (head_no q.hp a ha).mono (fun e w' ⟨e1,e3⟩=>⟨_,_,e1,.inl ⟨ha,rfl,rfl⟩,e3⟩)
theorem TwG.rhead {n0:Nat} {w:World} {h g r:Nat} {v:Value} {N:List Nd} (q:TwG n0 w h g r v N) (a:Int):Calls Tryz.prog 22 #[.pointer (some ⟨r,0,none⟩),.int .i64 a] w fun e w' => ∃ s f,e=.returned (.tuple #[.int .i64 s,.bool f])∧HdR N a s f∧Same0 w w' := by
 obtain ⟨ao,cap,rd⟩:=q.rh.rd
 by_cases ha:0≤a∧a<(N.length:Int)
 ·obtain ⟨i,rfl⟩:∃ i:Nat,a=(i:Int):=⟨a.toNat,by omega⟩
  exact (rhead_yes rd i (by omega)).mono (fun e w' ⟨b,hb,e1,e2,e3⟩=>⟨_,_,e1,.inr ⟨i,b,hb,rfl,e2,rfl,rfl⟩,e3⟩)
 ·exact (rhead_no rd a ha).mono (fun e w' ⟨e1,e3⟩=>⟨_,_,e1,.inl ⟨ha,rfl,rfl⟩,e3⟩)
def PtE (N:List Nd) (a t e:Int) (N' : List Nd):Prop:=
 (¬ ((0≤a∧a<(N.length:Int))∧0≤t∧t<(N.length:Int))∧e=112∧N' = N)∨∃ i j:Nat,i<N.length∧j<N.length∧a=(i:Int)∧t=(j:Int)∧((Rc N j i∧e=113∧N' = N)∨(¬ Rc N j i∧e=0∧N' = N.set i (indN j)))
theorem PtE.uniq {N N1 N2:List Nd} {a t e e' : Int} (h:PtE N a t e N1) (h' : PtE N a t e' N2):e=e' ∧ N1=N2:=by
 rcases h with ⟨h1,rfl,rfl⟩ | ⟨i,j,hi,hj,e1,e2,e3⟩ <;> rcases h' with ⟨g1,rfl,rfl⟩ | ⟨i', j', hi', hj', f1,f2,f3⟩
 ·exact ⟨rfl,rfl⟩
 ·exact absurd (by omega) h1
 ·exact absurd (by omega) g1
 ·obtain rfl:i=i' := by omega
  obtain rfl:j=j' := by omega
  rcases e3 with ⟨c1,rfl,rfl⟩ | ⟨c1,rfl,rfl⟩ <;> rcases f3 with ⟨c2,rfl,rfl⟩ | ⟨c2,rfl,rfl⟩
  ·exact ⟨rfl,rfl⟩
  ·exact absurd c1 c2
  ·exact absurd c2 c1
  ·exact ⟨rfl,rfl⟩
theorem PtE.len {N N1:List Nd} {a t e:Int} (h:PtE N a t e N1):N1.length=N.length:=by
 rcases h with ⟨_,_,rfl⟩ | ⟨i,j,_,_,_,_,⟨_,_,rfl⟩ | ⟨_,_,rfl⟩⟩ <;> simp
theorem hpoint_any {B:Nat→Prop} {w:World} {h g room:Nat} {N:List Nd} (p:HpB B w h g room N) (a t:Int):Calls Tryz.prog 25 #[.pointer (some ⟨h,0,none⟩),.int .i64 a,.int .i64 t] w fun e w' => ∃ c N', e=.returned (.int .i64 c)∧PtE N a t c N' ∧ HpB B w' h g room N' ∧ Kept (fun k=>k=g) w w' := by
 by_cases ha:(0≤a∧a<(N.length:Int))∧0≤t∧t<(N.length:Int)
 ·obtain ⟨i,rfl⟩:∃ i:Nat,a=(i:Int):=⟨a.toNat,by omega⟩
  obtain ⟨j,rfl⟩:∃ j:Nat,t=(j:Int):=⟨t.toNat,by omega⟩
  refine (point_in p i j (by omega) (by omega)).mono (fun e w' hq=>?_)
  rcases hq with ⟨h1,h2,h3⟩ | ⟨h1,h2,h3,h4⟩
  ·exact ⟨_,_,h2,.inr ⟨i,j,by omega,by omega,rfl,rfl,.inl ⟨h1,rfl,rfl⟩⟩,p.same h3,h3.mono (fun _ _ f=>f.elim)⟩
  ·exact ⟨_,_,h2,.inr ⟨i,j,by omega,by omega,rfl,rfl,.inr ⟨h1,rfl,rfl⟩⟩,h3,h4⟩
 ·exact (point_out p a t ha).mono (fun e w' ⟨h2,h3⟩=>⟨_,_,h2,.inl ⟨ha,rfl,rfl⟩,p.same h3,h3.mono (fun _ _ f=>f.elim)⟩)
theorem rpoint_any {B:Nat→Prop} {w:World} {r room:Nat} {v:Value} {N:List Nd} (p:RhB B w r room v N) (a t:Int):Calls Tryz.prog 26 #[.pointer (some ⟨r,0,none⟩),.int .i64 a,.int .i64 t] w fun e w' => ∃ c N', e=.returned (.int .i64 c)∧PtE N a t c N' ∧ RhB B w' r room v N' ∧ Kept (fun k=>v.ownBlock=some k) w w' := by
 by_cases ha:(0≤a∧a<(N.length:Int))∧0≤t∧t<(N.length:Int)
 ·obtain ⟨i,rfl⟩:∃ i:Nat,a=(i:Int):=⟨a.toNat,by omega⟩
  obtain ⟨j,rfl⟩:∃ j:Nat,t=(j:Int):=⟨t.toNat,by omega⟩
  refine (rpoint_in p i j (by omega) (by omega)).mono (fun e w' hq=>?_)
  rcases hq with ⟨h1,h2,h3⟩ | ⟨h1,h2,h3,h4⟩
  ·exact ⟨_,_,h2,.inr ⟨i,j,by omega,by omega,rfl,rfl,.inl ⟨h1,rfl,rfl⟩⟩,p.same h3,h3.mono (fun _ _ f=>f.elim)⟩
  ·exact ⟨_,_,h2,.inr ⟨i,j,by omega,by omega,rfl,rfl,.inr ⟨h1,rfl,rfl⟩⟩,h3,h4⟩
 ·exact (rpoint_out p a t ha).mono (fun e w' ⟨h2,h3⟩=>⟨_,_,h2,.inl ⟨ha,rfl,rfl⟩,by rw [h3];exact p,by rw [h3];exact Kept.refl _ _⟩)
def MkR (N:List Nd) (a m e:Int) (N' : List Nd):Prop:=
 (¬ (0≤a∧a<(N.length:Int))∧e=112∧N' = N)∨∃ (i:Nat) (hi:i<N.length),a=(i:Int)∧((markE N (i:Int) m≠0∧e=markE N (i:Int) m∧N' = N)∨(markE N (i:Int) m=0∧e=0∧N' = N.set i (marked N[i] m)))
theorem MkR.uniq {N N1 N2:List Nd} {a m e e' : Int} (h:MkR N a m e N1) (h' : MkR N a m e' N2):e=e' ∧ N1=N2:=by
 rcases h with ⟨h1,rfl,rfl⟩ | ⟨i,hi,e1,e3⟩ <;> rcases h' with ⟨g1,rfl,rfl⟩ | ⟨i', hi', f1,f3⟩
 ·exact ⟨rfl,rfl⟩
 ·exact absurd (by omega) h1
 ·exact absurd (by omega) g1
 ·obtain rfl:i=i' := by omega
  rcases e3 with ⟨c1,rfl,rfl⟩ | ⟨c1,rfl,rfl⟩ <;> rcases f3 with ⟨c2,rfl,rfl⟩ | ⟨c2,rfl,rfl⟩
  ·exact ⟨rfl,rfl⟩
  ·exact absurd c2 c1
  ·exact absurd c1 c2
  ·exact ⟨rfl,rfl⟩
theorem MkR.len {N N1:List Nd} {a m e:Int} (h:MkR N a m e N1):N1.length=N.length:=by
 rcases h with ⟨_,_,rfl⟩ | ⟨i,_,_,⟨_,_,rfl⟩ | ⟨_,_,rfl⟩⟩ <;> simp
theorem hmark_any {B:Nat→Prop} {w:World} {h g room:Nat} {N:List Nd} (p:HpB B w h g room N) (a m:Int):Calls Tryz.prog 27 #[.pointer (some ⟨h,0,none⟩),.int .i64 a,.int .i64 m] w fun e w' => ∃ c N', e=.returned (.int .i64 c)∧MkR N a m c N' ∧ HpB B w' h g room N' ∧ Kept (fun k=>k=g) w w' := by
 by_cases ha:0≤a∧a<(N.length:Int)
 ·obtain ⟨i,rfl⟩:∃ i:Nat,a=(i:Int):=⟨a.toNat,by omega⟩
  refine (mark_in p i (by omega) m).mono (fun e w' hq=>?_)
  rcases hq with ⟨h1,h2,h3⟩ | ⟨h1,_,_,_,h2,h3,h4⟩
  ·exact ⟨_,_,h2,.inr ⟨i,by omega,rfl,.inl ⟨h1,rfl,rfl⟩⟩,p.same h3,h3.mono (fun _ _ f=>f.elim)⟩
  ·exact ⟨_,_,h2,.inr ⟨i,by omega,rfl,.inr ⟨h1,rfl,rfl⟩⟩,h3,h4⟩
 ·exact (mark_out p a m ha).mono (fun e w' ⟨h2,h3⟩=>⟨_,_,h2,.inl ⟨ha,rfl,rfl⟩,p.same h3,h3.mono (fun _ _ f=>f.elim)⟩)
theorem rmark_any {B:Nat→Prop} {w:World} {r room:Nat} {v:Value} {N:List Nd} (p:RhB B w r room v N) (a m:Int):Calls Tryz.prog 28 #[.pointer (some ⟨r,0,none⟩),.int .i64 a,.int .i64 m] w fun e w' => ∃ c N', e=.returned (.int .i64 c)∧MkR N a m c N' ∧ RhB B w' r room v N' ∧ Kept (fun k=>v.ownBlock=some k) w w' := by
 by_cases ha:0≤a∧a<(N.length:Int)
 ·obtain ⟨i,rfl⟩:∃ i:Nat,a=(i:Int):=⟨a.toNat,by omega⟩
  refine (rmark_in p i (by omega) m).mono (fun e w' hq=>?_)
  rcases hq with ⟨h1,h2,h3⟩ | ⟨h1,h2,h3,h4⟩
  ·exact ⟨_,_,h2,.inr ⟨i,by omega,rfl,.inl ⟨h1,rfl,rfl⟩⟩,by rw [h3];exact p,by rw [h3];exact Kept.refl _ _⟩
  ·exact ⟨_,_,h2,.inr ⟨i,by omega,rfl,.inr ⟨h1,rfl,rfl⟩⟩,h3,h4⟩
 ·exact (rmark_out p a m ha).mono (fun e w' ⟨h2,h3⟩=>⟨_,_,h2,.inl ⟨ha,rfl,rfl⟩,by rw [h3];exact p,by rw [h3];exact Kept.refl _ _⟩)
theorem RhB.rowI {B:Nat→Prop} {w:World} {r room:Nat} {v:Value} {N:List Nd} (p:RhB B w r room v N):∀ k,v.ownBlock=some k→NotI w k:=fun k e=>(p.row.block e).2.2
theorem TwG.afterH {n0:Nat} {w w' : World} {h g r:Nat} {v:Value} {N N' : List Nd} (q:TwG n0 w h g r v N) (hp:HpB (fun _=>True) w' h g 4000 N') (hk:Kept (fun k=>k=g) w w'):RhB (fun _=>True) w' r 4000 v N:=by
 obtain ⟨cs,hq,_⟩:=q.hp.blk
 exact q.rh.kept hk (fun e=>q.sep.2.1 e) (fun k e s=>(q.sep.2.2 k e).2.1 s) (fun k _ e cur hc=>by rw [e,hq] at hc;cases hc)
theorem TwG.afterR {n0:Nat} {w w1 w' : World} {h g r:Nat} {v:Value} {N N' : List Nd} (q:TwG n0 w h g r v N) (hp:HpB (fun _=>True) w1 h g 4000 N') (r1:RhB (fun _=>True) w1 r 4000 v N) (rh:RhB (fun _=>True) w' r 4000 v N') (hk:Kept (fun k=>v.ownBlock=some k) w1 w'):TwG n0 w' h g r v N' :=
 ⟨hp.kept hk (fun e=>(q.sep.2.2 _ e).1 rfl) (fun e=>(q.sep.2.2 _ e).2.1 rfl) (fun k _ e=>r1.rowI k e),rh,q.sep,q.lo⟩
end Go.Proofs.YtpimndkhoalaeaaGreat
namespace Go.Proofs.YtpimndkhoalaeaaGreat
set_option maxRecDepth 100000
set_option linter.unusedVariables false
open Go.RowKit
attribute [local go_sem ↓] Go.wp_at_zero Go.wp_at_succ
set_option maxHeartbeats 2000000 in
theorem sign_any (ao:Option Addr) (len cap:Nat) (xs:List Sym) (w:World) (hx:SymsAt w ao len xs) (hm:len≤maxLen) :
  Calls Tryz.prog 7 #[.slice ao len cap] w fun e w' => ∃ b rv,e=.returned (.tuple #[.pointer (some ⟨b,0,none⟩),rv])∧Sg w'.heap.size w' b (madeL xs)∧Rl w'.heap.size w' rv (madeL xs)∧Same0 w w' := by
 unfold maxLen at hm
 go_enter Tryz.func7,Tryz.ntmps7
 go_wp2_with (first | (go_at_call 32;refine (new_any _).mono ?_;rintro e w' ⟨rfl,rfl⟩))
 go_loopw [6] (fun i wr=>∃ (k:Nat) (sv:Value) (mr:Option Nat) (rv:Value),k≤len∧i=.int .i64 (k:Int)∧Both w.heap.size w wr w.heap.size (w.heap.size+1) (madeL (xs.take k)) sv mr rv) (fun i _=>len-(intOf i).toNat)
 case atStart=>exact ⟨0,_,_,_,Nat.zero_le _,rfl,Both.start w⟩
 case round=>
  obtain ⟨k,sv,mr,rv,hk,rfl,hb⟩:=hrel
  have hlen:=hb.sg.len
  by_cases hlt:k<len
  ·obtain ⟨xl,xc,xw⟩:=hx.kept (from_below hb.k).below
   obtain ⟨xb,off,rfl,hxb,hxc⟩:=xc.resolve_left (by omega)
   have hkx:k<xs.length:=by omega
   obtain ⟨x0,x1,x2⟩:=hxc k hkx
   have xsz:=(xw xs[k] (List.getElem_mem hkx)).1
   have i1:(0:Int)≤(k:Int):=by omega
   have i2:(k:Int)<(len:Int):=by omega
   have E1:Hid (madeL (xs.take (k+1))=addL (madeL (xs.take k)) xs[k]):=madeL_snoc hkx
   have hn0:=hb.k.size
   have hxs:=hx
   clear hxc xw xc xl
   generalize madeL (xs.take k)=L at *
   go_wp2_with fail
   refine (add_any hb.sg xs[k] xsz).mono ?_
   rintro e w1 ⟨rfl,sv1,mr1,h1,h2,h3⟩
   have hr1:RefAt w1 (w.heap.size+1) L rv:=hb.rf.kept h2 (fun k hk' e=>hb.d k e hk')
   have k1:Kept (From w.heap.size) w w1:=hb.k.trans h2 (fun i _ e=>hb.f i e)
   obtain ⟨y0,y1,y2⟩:w1.cell? ⟨xb,off+k * 3,none⟩=some (.string xs[k].name)∧w1.cell? ⟨xb,off+k * 3+1,none⟩=some (.int .i64 xs[k].ar)∧w1.cell? ⟨xb,off+k * 3+2,none⟩=some (.bool xs[k].df):=by
    obtain ⟨_,yc,_⟩:=hxs.kept (from_below k1).below
    obtain ⟨_,_,e,_,hyc⟩:=yc.resolve_left (by omega)
    simp only [Option.some.injEq,Addr.mk.injEq,and_true] at e
    rw [e.1,e.2]
    exact hyc k hkx
   clear x0 x1 x2
   go_wp2_with fail
   refine (radd_any hr1 hlen xs[k] xsz).mono ?_
   rintro e w2 ⟨rfl,hr⟩
   obtain ⟨rv2,hb2⟩:=hb.next xs[k] hn0 h1 h2 h3 hr
   go_wp2
   refine ⟨⟨k+1,sv1,mr1,rv2,by omega,by go_num,?_⟩,by simp [intOf];omega⟩
   rw [E1.out];exact hb2
  ·have hxl:=hx.1
   have E1:xs.take k=xs:=List.take_of_length_le (by omega)
   rw [E1] at hb hlen
   have r0:=hb.rf.c0
   clear E1
   go_wp2
   go_quiet (fail)
   go_wp2
   go_ret2
   have kd:Same0 wr (wr.drewN nq):=(Kept.refl _ _).drewN nq
   have fin:Sg wr.heap.size wr w.heap.size (madeL xs)∧Rl wr.heap.size wr rv (madeL xs)∧Same0 w wr:=⟨⟨⟨sv,mr,hb.sg,sig_foot_lt hb.sg⟩,hb.a⟩,⟨hb.rf.row,fun k e=>hb.rf.lt k (.inr e),hb.a,hlen⟩,from_below hb.k⟩
   exact ⟨w.heap.size,rv,rfl,fin.1.same kd,fin.2.1.same kd,fin.2.2.trans' kd⟩
theorem neq_efault (v:Value) (w:World):(binOp .neq 37 (.iface 97 v) .nilIface).run Tryz.prog w=.ok (.bool true) w:=by kernel_rfl
theorem neq_enil (w:World):(binOp .neq 37 .nilIface .nilIface).run Tryz.prog w=.ok (.bool false) w:=by kernel_rfl
abbrev gZ:Sym:=⟨⟨#[122]⟩,0,false⟩
abbrev gS:Sym:=⟨⟨#[115]⟩,1,false⟩
abbrev gP:Sym:=⟨⟨#[112]⟩,2,false⟩
abbrev gD:Sym:=⟨⟨#[100]⟩,1,true⟩
theorem ng_z:nameB ⟨#[122]⟩=true:=by decide +kernel
theorem ng_s:nameB ⟨#[115]⟩=true:=by decide +kernel
theorem ng_p:nameB ⟨#[112]⟩=true:=by decide +kernel
theorem ng_d:nameB ⟨#[100]⟩=true:=by decide +kernel
abbrev LG:List Sym:=[gZ,gS,gP,gD]
theorem made_LG:madeL [gZ,gS,gP,gD]=LG:=by
 simp [madeL,addL,addErr,ng_z,ng_s,ng_p,ng_d,findI]
abbrev NG4:List Nd:=[(0,[],0,false,0),(1,[0],0,false,0),(0,[],0,false,0),(2,[2,1],0,false,0)]
abbrev NG5:List Nd:=NG4 ++ [(3,[3],0,false,0)]
abbrev NG7:List Nd:=NG5 ++ [(1,[3],0,false,0),(2,[3,5],0,false,0)]
theorem ld_term:layF [] ([2,0,1,0].map (tgT LG))=(NG4,[3]):=by decide +kernel
theorem ck_term:checkE LG [2,0,1,0]=0:=by decide +kernel
theorem ck_one:checkE LG [1]=23:=by decide +kernel
theorem mk_five:mkE NG4 8 3 [3]=0:=by decide +kernel
abbrev TG:List Tg:=[(true,2,2,0),(false,0,0,3),(true,1,1,0),(false,0,0,3)]
theorem ld_right:layF NG5 TG=(NG7,[6]):=by decide +kernel
theorem ar_four:ArR NG5 4 0 3:=.inl ⟨4,4,3,by decide,by decide,rfl,Res.self (by decide) rfl,by decide,Res.self (by decide) rfl,rfl⟩
abbrev QG:List (Int × List Int):=[(2,[]),(-1,[0]),(1,[]),(-1,[0])]
theorem tg_two:tgT LG 2=(true,2,2,0):=by decide +kernel
theorem tg_one:tgT LG 1=(true,1,1,0):=by decide +kernel
theorem all_right:AllP LG NG5 ((4:Nat):Int) QG TG:=by
 refine ⟨rfl,fun i h h' => ?_⟩
 have hl:i<4:=h
 match i,hl with
 | 0,_=>exact .inl ⟨show (0:Int)≤2 by decide,show (2:Int)<4 by decide,tg_two.symm,rfl⟩
 | 1,_=>exact .inr (.inr (.inr (.inr ⟨rfl,3,⟨3,ar_four,rfl⟩,by decide,rfl,rfl⟩)))
 | 2,_=>exact .inl ⟨show (0:Int)≤1 by decide,show (1:Int)<4 by decide,tg_one.symm,rfl⟩
 | 3,_=>exact .inr (.inr (.inr (.inr ⟨rfl,3,⟨3,ar_four,rfl⟩,by decide,rfl,rfl⟩)))
theorem bd_right:BdY LG NG5 8 [QG] 0 4 TG:=⟨0,4,4,by decide,rfl,rfl,Res.self (by decide) rfl,all_right,by decide,by decide⟩
theorem syms_LG (w:World):SymsAt (w.alloc (.cells #[.string ⟨#[122]⟩,.int .i64 0,.bool false,.string ⟨#[115]⟩,.int .i64 1,.bool false,.string ⟨#[112]⟩,.int .i64 2,.bool false,.string ⟨#[100]⟩,.int .i64 1,.bool true] 77)) (some ⟨w.heap.size,0,none⟩) 4 [gZ,gS,gP,gD]:=by
 refine ⟨rfl,.inr ⟨_,_,rfl,by simp,fun i hi=>?_⟩,?_⟩
 ·have hi' : i<4:=by simpa using hi
  rw [cellAt (heap_alloc_new w _),cellAt (heap_alloc_new w _),cellAt (heap_alloc_new w _)]
  match i,hi' with
  | 0,_=>exact ⟨rfl,rfl,rfl⟩
  | 1,_=>exact ⟨rfl,rfl,rfl⟩
  | 2,_=>exact ⟨rfl,rfl,rfl⟩
  | 3,_=>exact ⟨rfl,rfl,rfl⟩
 ·intro x hx
  simp at hx
  rcases hx with rfl | rfl | rfl | rfl <;> exact ⟨by decide +kernel,by decide +kernel⟩
structure GH (n sb:Nat) (L:List Sym) (h g room:Nat) (N:List Nd) (w:World):Prop where
 sg:Sg n w sb L
 hp:HpB (fun _=>True) w h g room N
 gh:n≤h∧n≤g
theorem GH.same {n sb:Nat} {L:List Sym} {h g room:Nat} {N:List Nd} {w w' : World} (q:GH n sb L h g room N w) (hk:Same0 w w'):GH n sb L h g room N w' := ⟨q.sg.same hk,q.hp.same hk,q.gh⟩
theorem GH.next {n sb:Nat} {L:List Sym} {h g room:Nat} {N N' : List Nd} {w w' : World} {B:Nat→Prop} (q:GH n sb L h g room N w) (hk:Kept (fun k=>k=h∨k=g) w w') (hp:HpB B w' h g room N'):GH n sb L h g room N' w' :=
 ⟨q.sg.kept hk (fun k hk e=>by have:=q.gh;omega),hp.mono (fun _ _ _ _=>trivial),q.gh⟩
theorem GH.load_yes {n sb:Nat} {L:List Sym} {h g room:Nat} {N:List Nd} {w:World} (q:GH n sb L h g room N w) {ao:Option Addr} {cap:Nat} {t:List Int} (ht:IntsAt w ao t) (hc:checkE L t=0) (hv:∀ x∈t,0≤x) (hf:N.length+t.length≤room) :
  Calls Tryz.prog 10 #[.pointer (some ⟨sb,0,none⟩),.pointer (some ⟨h,0,none⟩),.slice ao t.length cap] w fun e w' => ∃ a:Nat,e=.returned (.tuple #[.int .i64 (a:Int),.nilIface])∧(layF N (t.map (tgT L))).2=[(a:Int)]∧GH n sb L h g room (layF N (t.map (tgT L))).1 w' ∧ Kept (fun k=>k=h∨k=g) w w' :=
 (Go.Proofs.YtpimndkhoalaeaaGreat.load_yes q.sg q.hp ht hc hv hf).mono (fun e w' ⟨a,e1,e2,e3,e4⟩=>⟨a,e1,e2,q.next e4 e3,e4⟩)
theorem GH.made {n sb:Nat} {L:List Sym} {h g room:Nat} {N:List Nd} {w:World} (q:GH n sb L h g room N w) (s:Int) {ao:Option Addr} {xs:List Int} {cap:Nat} (hx:Arg w ao xs cap) (he:mkE N room s xs=0) :
  Calls Tryz.prog 30 #[.pointer (some ⟨h,0,none⟩),.int .i64 s,.slice ao xs.length cap] w fun e w' => e=.returned (.tuple #[.int .i64 (N.length:Int),.int .i64 0])∧GH n sb L h g room (N ++ [(s,xs,0,false,0)]) w' ∧ Kept (fun k=>k=h∨k=g) w w' :=
 (make_yes q.hp s hx he).mono (fun e w' ⟨e1,e2,e3⟩=>⟨e1,q.next e3 e2,e3⟩)
theorem GH.build_yes {n sb:Nat} {L:List Sym} {h g room:Nat} {N:List Nd} {w:World} (q:GH n sb L h g room N w) {ro:Option Addr} {rc:Nat} {R:List (List (Int × List Int))} (hR:RtAt w ro R) (io po eo:Option Addr) (il ic pl pc el ec:Nat) {rule node:Int} {l:List Tg} (hy:BdY L N room R rule node l) :
  Calls Tryz.prog 17 #[.pointer (some ⟨sb,0,none⟩),.agg #[.slice io il ic,.slice po pl pc,.slice eo el ec,.slice ro R.length rc],.pointer (some ⟨h,0,none⟩),.int .i64 rule,.int .i64 node] w fun e w' => ∃ a:Nat,e=.returned (.tuple #[.int .i64 (a:Int),.nilIface])∧(layF N l).2=[(a:Int)]∧GH n sb L h g room (layF N l).1 w' ∧ Kept (fun k=>k=h∨k=g) w w' :=
 (build_any q.sg q.hp hR io po eo il ic pl pc el ec rule node).mono (fun e w' hb=>by
  obtain ⟨a,e1,e2,e3,e4⟩:=hb.yes hy
  exact ⟨a,e1,e2,q.next e4 e3,e4⟩)
theorem rt_QG (w:World) (X:World) (b0 b1 b2 b3:Nat) (h0:X.heap[b0]? = some (.cells #[.int .i64 0] 3 (0,0))) (h1:X.heap[b1]? = some (.cells #[.int .i64 0] 3 (0,0))) (h2:X.heap[b2]? = some (.cells #[.int .i64 2,.slice none 0 0,.int .i64 (-1),.slice (some ⟨b0,0,none⟩) 1 1,.int .i64 1,.slice none 0 0,.int .i64 (-1),.slice (some ⟨b1,0,none⟩) 1 1] 83 (0,0))) (h3:X.heap[b3]? = some (.cells #[.slice (some ⟨b2,0,none⟩) 4 4] 84 (0,0))):RtAt X (some ⟨b3,0,none⟩) [QG]:=by
 refine .inr ⟨b3,0,rfl,lt_of_at h3,fun i hi=>?_⟩
 have hi' : i<1:=hi
 obtain rfl:i=0:=by omega
 refine ⟨some ⟨b2,0,none⟩,4,cellAt h3 0,.inr ⟨b2,0,rfl,lt_of_at h2,fun j hj=>?_⟩,show (4:Nat)≤4398046511104 by decide⟩
 have hj' : j<4:=hj
 have I:∀ bb,X.heap[bb]? = some (.cells #[.int .i64 0] 3 (0,0))→IntsAt X (some ⟨bb,0,none⟩) [0]:=fun bb hb=>.inr ⟨bb,0,rfl,lt_of_at hb,fun i hi=>by
  have hi' : i<1:=hi
  obtain rfl:i=0:=by omega
  exact cellAt hb 0⟩
 match j,hj' with
 | 0,_=>exact ⟨none,0,cellAt h2 0,cellAt h2 1,.inl rfl,show (0:Nat)≤maxLen by decide⟩
 | 1,_=>exact ⟨some ⟨b0,0,none⟩,1,cellAt h2 2,cellAt h2 3,I b0 h0,show (1:Nat)≤maxLen by decide⟩
 | 2,_=>exact ⟨none,0,cellAt h2 4,cellAt h2 5,.inl rfl,show (0:Nat)≤maxLen by decide⟩
 | 3,_=>exact ⟨some ⟨b1,0,none⟩,1,cellAt h2 6,cellAt h2 7,I b1 h1,show (1:Nat)≤maxLen by decide⟩
set_option maxHeartbeats 4000000 in
theorem awake13_any (w:World):Calls Tryz.prog 6 #[] w fun e w' => e=.returned (.bool true)∧Same0 w w' := by
 have C1:=sign_any (some ⟨w.heap.size,0,none⟩) 4 4 [gZ,gS,gP,gD] _ (syms_LG w) (by unfold maxLen;omega)
 rw [made_LG] at C1
 have k0:Hid (Same0 w (w.alloc (.cells #[.string ⟨#[122]⟩,.int .i64 0,.bool false,.string ⟨#[115]⟩,.int .i64 1,.bool false,.string ⟨#[112]⟩,.int .i64 2,.bool false,.string ⟨#[100]⟩,.int .i64 1,.bool true] 77))):=(Kept.refl _ w).alloc _
 have F1:Hid (checkE LG [2,0,1,0]=0∧layF [] ([2,0,1,0].map (tgT LG))=(NG4,[3])∧checkE LG [1]=23∧BdY LG NG5 8 [QG] 0 4 TG):=⟨ck_term,ld_term,ck_one,bd_right⟩
 generalize LG=L at *
 go_enter Tryz.func6,Tryz.ntmps6
 go_upto_region 5 with (first
  | (go_at_call 7;refine C1.mono ?_;rintro e w1 ⟨sb,rv,rfl,hs, -,k1⟩)
  | (go_at_call 29;refine (hnew_yes 8 w1 (by omega) (by omega)).mono ?_;rintro e w2 ⟨h,g,rfl,p2,k2,hh,hg⟩))
 have Q2:Hid (GH w1.heap.size sb L h g 8 [] w2):=⟨hs.same k2,p2.mono (fun _ _ _ _=>trivial),hh,hg⟩
 have K2:Hid (Same0 w w2):=(k0.out.trans' k1).trans' k2
 have hz1:w.heap.size≤w1.heap.size:=(k0.out.trans' k1).size
 have KH:Hid (∀ a b,Kept (fun k=>k=h∨k=g) a b→Same0 w a→Same0 w b):=fun a b hk h1=>h1.trans hk (fun i hi e=>by omega)
 clear C1 hs p2 k1 k2 k0
 have ka2:=(Kept.refl (fun _=>False) w2).alloc (.cells #[.int .i64 2,.int .i64 0,.int .i64 1,.int .i64 0] 3)
 have CL:=(Q2.out.same ka2).load_yes (cap:=4) (ints_new w2 [2,0,1,0] 3 rfl) F1.out.1 (by decide) (by decide)
 rw [F1.out.2.1] at CL
 go_upto_region 6 with (first | (go_at_call 10;refine CL.mono ?_;rintro e w3 ⟨a3,rfl,ea,Q3,k3⟩))
 obtain rfl:a3=3:=by simp at ea;omega
 have K3:Hid (Same0 w w3):=KH.out _ _ k3 (K2.out.trans' ka2)
 have HQ3:Hid (GH w1.heap.size sb L h g 8 NG4 w3):=Q3
 clear CL ea Q3 k3 Q2 K2 ka2
 have ka3:=(Kept.refl (fun _=>False) w3).alloc (.cells #[.int .i64 1] 3)
 have CB:=load_bad (cap:=1) (HQ3.out.sg.same ka3) ⟨h,0,none⟩ (ints_new w3 [1] 3 rfl) (by decide) (by rw [F1.out.2.2.1];decide)
 rw [F1.out.2.2.1] at CB
 go_upto_region 7 with (first | (go_at_call 10;refine CB.mono ?_;rintro e w4 ⟨v4,rfl,⟨fb,rfl, -, -⟩,k4⟩))
 have K4:Hid (Same0 w w4):=(K3.out.trans' ka3).trans' k4
 have HQ4:Hid (GH w1.heap.size sb L h g 8 NG4 w4):=(HQ3.out.same ka3).same k4
 clear CB k4 ka3 HQ3 K3
 have ka4:=(Kept.refl (fun _=>False) w4).alloc (.cells #[.int .i64 3] 3)
 have CM:=(HQ4.out.same ka4).made 3 (arg_one w4 3) mk_five
 go_upto_region 8 with (first | (go_at_call 30;refine CM.mono ?_;rintro e w5 ⟨rfl,Q5,k5⟩))
 have K5:Hid (Same0 w w5):=KH.out _ _ k5 (K4.out.trans' ka4)
 have HQ5:Hid (GH w1.heap.size sb L h g 8 NG5 w5):=Q5
 clear CM k5 ka4 HQ4 K4 Q5
 obtain ⟨X1,hX1⟩:∃ X1,X1=w5.alloc (.cells #[.int .i64 0] 3):=⟨_,rfl⟩
 obtain ⟨X2,hX2⟩:∃ X2,X2=X1.alloc (.cells #[.int .i64 0] 3):=⟨_,rfl⟩
 obtain ⟨X3,hX3⟩:∃ X3,X3=X2.alloc (.cells #[.int .i64 2,.slice none 0 0,.int .i64 (-1),.slice (some ⟨w5.heap.size,0,none⟩) 1 1,.int .i64 1,.slice none 0 0,.int .i64 (-1),.slice (some ⟨w5.heap.size+1,0,none⟩) 1 1] 83):=⟨_,rfl⟩
 obtain ⟨X4,hX4⟩:∃ X4,X4=X3.alloc (.cells #[.slice (some ⟨w5.heap.size+1+1,0,none⟩) 4 4] 84):=⟨_,rfl⟩
 obtain ⟨X5,hX5⟩:∃ X5,X5=X4.alloc (.cells #[.slice none 0 0,.slice none 0 0,.slice none 0 0,.slice (some ⟨w5.heap.size+1+1+1,0,none⟩) 1 1] 58):=⟨_,rfl⟩
 have z1:X1.heap.size=w5.heap.size+1:=by rw [hX1];simp
 have z2:X2.heap.size=w5.heap.size+1+1:=by rw [hX2];simp [z1]
 have z3:X3.heap.size=w5.heap.size+1+1+1:=by rw [hX3];simp [z2]
 have z4:X4.heap.size=w5.heap.size+1+1+1+1:=by rw [hX4];simp [z3]
 have j1:Same0 w5 X1:=by rw [hX1];exact (Kept.refl _ _).alloc _
 have j2:Same0 X1 X2:=by rw [hX2];exact (Kept.refl _ _).alloc _
 have j3:Same0 X2 X3:=by rw [hX3];exact (Kept.refl _ _).alloc _
 have j4:Same0 X3 X4:=by rw [hX4];exact (Kept.refl _ _).alloc _
 have j5:Same0 X4 X5:=by rw [hX5];exact (Kept.refl _ _).alloc _
 have q0:X1.heap[w5.heap.size]? = some (.cells #[.int .i64 0] 3 (0,0)):=by rw [hX1];exact heap_alloc_new _ _
 have q1:X2.heap[w5.heap.size+1]? = some (.cells #[.int .i64 0] 3 (0,0)):=by rw [hX2,← z1];exact heap_alloc_new _ _
 have q2:X3.heap[w5.heap.size+1+1]? = some (.cells #[.int .i64 2,.slice none 0 0,.int .i64 (-1),.slice (some ⟨w5.heap.size,0,none⟩) 1 1,.int .i64 1,.slice none 0 0,.int .i64 (-1),.slice (some ⟨w5.heap.size+1,0,none⟩) 1 1] 83 (0,0)):=by rw [hX3,← z2];exact heap_alloc_new _ _
 have q3:X4.heap[w5.heap.size+1+1+1]? = some (.cells #[.slice (some ⟨w5.heap.size+1+1,0,none⟩) 4 4] 84 (0,0)):=by rw [hX4,← z3];exact heap_alloc_new _ _
 have q4:X5.heap[w5.heap.size+1+1+1+1]? = some (.cells #[.slice none 0 0,.slice none 0 0,.slice none 0 0,.slice (some ⟨w5.heap.size+1+1+1,0,none⟩) 1 1] 58 (0,0)):=by rw [hX5,← z4];exact heap_alloc_new _ _
 have RT:=rt_QG w5 X5 _ _ _ _ (j5.at0 (j4.at0 (j3.at0 (j2.at0 q0)))) (j5.at0 (j4.at0 (j3.at0 q1))) (j5.at0 (j4.at0 q2)) (j5.at0 q3)
 have J5:=(((j1.trans' j2).trans' j3).trans' j4).trans' j5
 have CB:=(HQ5.out.same J5).build_yes (rc:=1) RT none none none 0 0 0 0 0 0 F1.out.2.2.2
 rw [ld_right] at CB
 have K5' : Hid (Same0 w X5):=K5.out.trans' J5
 obtain ⟨y0,y1,y2,y3⟩:=boxT4 q4
 go_upto_region 9 with fail
 rw [← hX1,← hX2,← hX3,← hX4,← hX5]
 clear hX1 hX2 hX3 hX4 hX5 z1 z2 z3 z4 j1 j2 j3 j4 j5 q0 q1 q2 q3 q4 RT J5 K5 HQ5
 go_upto_region 10 with (first | (go_at_call 17;refine CB.mono ?_;rintro e w6 ⟨a6,rfl,ea,Q6,k6⟩))
 obtain rfl:a6=6:=by simp at ea;omega
 have K6:Hid (Same0 w w6):=KH.out _ _ k6 K5'.out
 have HQ6:Hid (GH w1.heap.size sb L h g 8 NG7 w6):=Q6
 clear CB ea Q6 k6 K5' y0 y1 y2 y3
 have CA:=hat_yes HQ6.out.hp 6 (by decide)
 go_upto_region 11 with (first | (go_at_call 31;refine CA.mono ?_;rintro e w7 ⟨bo,bc,rfl,a1, -,k7⟩))
 obtain ⟨X7,hX7⟩:∃ X7,X7=w7.alloc (.cells #[.int .i64 2,.slice bo 2 bc,.int .i64 0,.bool false,.int .i64 0] 86):=⟨_,rfl⟩
 rw [← hX7]
 have j7:Same0 w7 X7:=by rw [hX7];exact (Kept.refl _ _).alloc _
 have hbx:X7.heap[w7.heap.size]? = some (.cells #[.int .i64 2,.slice bo 2 bc,.int .i64 0,.bool false,.int .i64 0] 86 (0,0)):=by rw [hX7];exact heap_alloc_new _ _
 have K7:Hid (Same0 w X7):=(K6.out.trans' k7).trans' j7
 have HQ7:Hid (GH w1.heap.size sb L h g 8 NG7 X7):=(HQ6.out.same k7).same j7
 have ha7:IntsAt X7 bo [3,5]:=(a1.same j7).1.at'
 obtain ⟨ab,aoff,rfl,hab,hac⟩:=ha7.get (i:=0) (by decide)
 obtain ⟨ab', aoff', e7,hab', hac'⟩:=ha7.get (i:=1) (by decide)
 simp only [Option.some.injEq,Addr.mk.injEq,and_true] at e7
 obtain ⟨rfl,rfl⟩:=e7
 have FC:Hid (∀ ww,Same0 X7 ww→ww.cell? ⟨w7.heap.size,0,none⟩=some (.int .i64 2)∧ww.cell? ⟨w7.heap.size,1,none⟩=some (.slice (some ⟨ab,aoff,none⟩) 2 bc)∧ww.cell? ⟨ab,aoff,none⟩=some (.int .i64 3)∧ww.cell? ⟨ab,aoff+1,none⟩=some (.int .i64 5)):=fun ww hk=>⟨cellAt (hk.at0 hbx) 0,cellAt (hk.at0 hbx) 1,(hk.cell (p:=⟨ab,aoff,none⟩) hab (fun f=>f)).trans hac,(hk.cell (p:=⟨ab,aoff+1,none⟩) hab (fun f=>f)).trans hac'⟩
 clear hX7 j7 hbx a1 k7 K6 HQ6 CA ha7 hac hac' hab hab'
 have CO:=of_any (some ⟨h,0,none⟩) X7
 have CH:Hid (∀ ww,Same0 X7 ww→Calls Tryz.prog 21 #[.agg #[.pointer (some ⟨h,0,none⟩)],.int .i64 4] ww fun e w' => e=.returned (.tuple #[.int .i64 3,.bool false])∧Same0 ww w'):=fun ww hk=>(head_yes (HQ7.out.same hk).hp 4 (by decide)).mono (fun e w' ⟨b,hb,e1,e2,e3⟩=>by
  obtain rfl:=e2.uniq (Res.self (l:=NG7) (a:=4) (by decide) rfl)
  exact ⟨e1,e3⟩)
 go_upto_region 12 with (first
  | (go_at_call 20;refine CO.mono ?_;rintro e w8 ⟨rfl,k8⟩)
  | (go_at_call 21;refine (CH.out w8 k8).mono ?_;rintro e w9 ⟨rfl,k9⟩))
 obtain ⟨y0,y1,y2,y3⟩:=FC.out w9 (Same0.trans' k8 k9)
 have n1:=neq_efault
 have n2:=neq_enil
 go_wp2
 go_ret
 exact ⟨rfl,(K7.out.trans' k8).trans' k9⟩
end Go.Proofs.YtpimndkhoalaeaaGreat
