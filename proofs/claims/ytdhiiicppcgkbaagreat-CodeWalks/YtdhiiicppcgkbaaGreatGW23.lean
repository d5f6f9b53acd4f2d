import Derived.Test.YtdhiiicppcgkbaaGreatGW22
import Derived.Test.YtdhiiicppcgkbaaGreatGW05
import Derived.Deep.RegionHeld3
import Derived.Test.YtdhiiicppcgkbaaGreatGW06
import Derived.Test.YtdhiiicppcgkbaaGreatGW08
namespace Go.Proofs.YtdhiiicppcgkbaaGreat
set_option maxRecDepth 100000
set_option linter.unusedVariables false
open Go.RowKit
attribute [local go_sem ↓] Go.wp_at_zero Go.wp_at_succ
def MZ (ap:Bool) (J:List Int) (rep:Nat→Int) (cl:Nat→Nat) (sz:Nat→Int) (mz:Nat→Int):Prop:=∀ c,VNode ap J.length c→cl c=c→(∀ p:Nat,rep c=p→mz c=sz p)∧(rep c<0→mz c=0∨mz c=1)
theorem MZ.upd {ap:Bool} {J:List Int} {up:Nat→Nat} {rep:Nat→Int} {cl ρ:Nat→Nat} {ld:Int→Int} (hr:NR ap J up rep cl ρ ld) {sz mz:Nat→Int} (h:MZ ap J rep cl sz mz) {c p:Nat} (hc:VNode ap J.length c) (hcc:cl c=c) (hp:rep c=p) (v:Int):MZ ap J rep cl (updN sz p v) (fun k=>if k=c then v else mz k):=by
 have hcp:cl p=c:=by
  rcases hr.reps c hc hcc with ⟨a,_⟩ | ⟨q,a1,a2,a3⟩
  ·omega
  ·have:q=p:=by omega
   rw [← this];exact a3
 intro d hd hdd
 obtain ⟨h1,h2⟩:=h d hd hdd
 refine ⟨fun q hq=>?_,fun hn=>?_⟩
 ·by_cases e:d=c
  ·subst e
   have:q=p:=by omega
   subst this
   simp [updN]
  ·have hqp:q≠p:=fun f=>by
    subst f
    rcases hr.reps d hd hdd with ⟨a,_⟩ | ⟨q', a1,a2,a3⟩
    ·omega
    ·have:q' = q:=by omega
     subst this
     rw [a3] at hcp;exact e hcp
   simp only [e,if_false]
   unfold updN;rw [if_neg hqp];exact h1 q hq
 ·have e:d≠c:=fun f=>by subst f;omega
  simp only [e,if_false];exact h2 hn
def NSPost (ap:Bool) (J:List Int) (rep:Nat→Int) (cl:Nat→Nat) (lb:Nat) (w:World) (k:Int) (sz' : Nat→Int) (e:Ending) (w' : World):Prop:=e=.returned (.int .i64 (if k = -1 then -2 else k))∧∃ mz', Nums w' lb (J.length+200) mz' ∧ MZ ap J rep cl sz' mz' ∧ Kept (fun q=>q=lb) w w'
set_option maxHeartbeats 8000000 in
theorem nsize_any {L:List Sym} {ap:Bool} {B:NB} {T J:List Int} {up:Nat→Nat} {rep:Nat→Int} {cl ρ:Nat→Nat} {ld:Int→Int} (hT:Trs L J) (hl:LdOk J ld) (hJ:J.length≤4000) (hr:NR ap J up rep cl ρ ld) {lb lc:Nat} (hlb:B.top≤lb):∀ (n:Nat) (w:World) (mz sz:Nat→Int) (x:Nat) (k:Int) (sz' : Nat→Int),NC L B w T J up rep→Nums w lb (J.length+200) mz→MZ ap J rep cl sz mz→x<J.length→SzOk sz→sizF L J ld n sz x=some (k,sz') →
  Calls Tryz.prog 186 #[.pointer (some ⟨B.nb,0,none⟩),.slice (some ⟨lb,0,none⟩) (J.length+200) lc,.int .i64 (x:Int)] w (NSPost ap J rep cl lb w k sz'):=by
 intro n
 induction n with
 | zero=>intro w mz sz x k sz' _ _ _ _ _ e;simp [sizF] at e
 | succ n ih=>
  intro w mz sz x k sz' hC hN hM hx hs e
  have vx:VNode ap J.length x:=.inl hx
  have cX:=class_any hC hr vx
  have lx:=hr.led x vx
  rw [pt_place hx] at lx
  have vc:=hr.cnode x vx
  have hcc:=hr.idem x vx
  have rx:=hr.reps _ vc hcc
  obtain ⟨m1,m2⟩:=hM _ vc hcc
  have hcl:=vn_lt vc
  obtain ⟨f1,f2⟩:=hN.cell hcl
  have g1:=(hC.reps.cell hcl).1
  obtain ⟨c1,c2,c3,c4⟩:=hC.cells
  obtain ⟨C,hCC⟩:∃ C,cl x=C:=⟨_,rfl⟩
  rw [hCC] at cX lx vc hcc rx m1 m2 hcl f1 f2 g1
  have i1:(0:Int)≤(C:Int):=by omega
  have i2:(C:Int)<((J.length+200:Nat):Int):=by omega
  rw [sizF] at e
  by_cases hneg:rep C<0
  ·have hlx:ld x<0:=by
    rw [lx,if_pos hneg]
    rcases rx with ⟨_,a⟩ | ⟨p,a,_⟩
    ·exact pt_neg a
    ·omega
   rw [if_pos hlx] at e
   simp only [Option.some.injEq,Prod.mk.injEq] at e
   obtain ⟨rfl,rfl⟩:=e
   have hr1:rep C = -1:=by
    rcases rx with ⟨a,_⟩ | ⟨p,a,_⟩
    ·exact a
    ·omega
   rw [hr1] at g1
   by_cases h0:mz C=0
   ·have hN' := hN.set C 1
    have hM' : MZ ap J rep cl sz (fun k=>if k=C then 1 else mz k):=by
     intro d hd hdd
     by_cases ed:d=C
     ·subst ed
      simp only [if_true]
      exact ⟨fun p hp=>by omega,fun _=>.inr trivial⟩
     ·simp only [ed,if_false];exact hM d hd hdd
    have kk:Kept (fun q=>q=lb) w (w.setCell ⟨lb,C,none⟩ (.int .i64 1)):=Kept.setCell (S:=fun q=>q=lb) (p:=⟨lb,C,none⟩) (Kept.refl _ _) (fun _=>rfl) _
    rw [h0] at f1
    clear ih hM m1 m2 hC hN hr
    go_enter Tryz.func186,Tryz.ntmps186
    go_wp2_with (first | (go_at_call 192;refine cX.mono ?_;rintro e w' ⟨rfl,hw'⟩;obtain rfl:w=w' := hw'.symm))
    go_returns
    exact ⟨rfl,_,hN', hM', kk⟩
   ·have h1:mz C=1:=(m2 hneg).resolve_left h0
    rw [h1] at f1
    clear ih m1 m2 hC hr h0 h1
    go_enter Tryz.func186,Tryz.ntmps186
    go_wp2_with (first | (go_at_call 192;refine cX.mono ?_;rintro e w' ⟨rfl,hw'⟩;obtain rfl:w=w' := hw'.symm))
    go_returns
    exact ⟨rfl,_,hN,hM,Kept.refl _ _⟩
  ·obtain ⟨p,hp,hpl,hpc⟩:∃ p:Nat,rep C=p∧p<J.length∧cl p=C:=by
    rcases rx with ⟨a,_⟩ | a
    ·omega
    ·exact a
   rw [if_neg hneg,hp] at lx
   rw [lx,if_neg (by omega),Int.toNat_natCast] at e
   have hmz:=m1 p hp
   rw [hmz] at f1
   rw [hp] at g1
   by_cases h2:sz p≠0
   ·rw [if_pos h2] at e
    simp only [Option.some.injEq,Prod.mk.injEq] at e
    obtain ⟨rfl,rfl⟩:=e
    have h3:=hs p
    obtain ⟨v,hv⟩:∃ v,sz p=v:=⟨_,rfl⟩
    rw [hv] at f1 h2 h3 ⊢
    clear ih m1 m2 hC hr hmz
    by_cases h4:v = -1
    ·subst h4
     go_enter Tryz.func186,Tryz.ntmps186
     go_wp2_with (first | (go_at_call 192;refine cX.mono ?_;rintro e w' ⟨rfl,hw'⟩;obtain rfl:w=w' := hw'.symm))
     go_returns
     exact ⟨rfl,_,hN,hM,Kept.refl _ _⟩
    ·go_enter Tryz.func186,Tryz.ntmps186
     go_wp2_with (first | (go_at_call 192;refine cX.mono ?_;rintro e w' ⟨rfl,hw'⟩;obtain rfl:w=w' := hw'.symm))
     go_returns
     exact ⟨by rw [if_neg h4];rfl,_,hN,hM,Kept.refl _ _⟩
   ·rw [if_neg h2] at e
    have h0:sz p=0:=by simpa using h2
    rw [h0] at f1
    cases h3:sizA (sizF L J ld n) (kidsL L J p) 1 (updN sz p (-1)) with
    | none=>simp [h3] at e
    | some v=>
     obtain ⟨s,sz1⟩:=v
     simp only [h3] at e
     have HE:Hid ((if s = -1 then some (-1,sz1) else some (s,updN sz1 p s))=some (k,sz')):=e
     have H3:Hid (sizA (sizF L J ld n) ((kidsL L J p).drop 0) 1 (updN sz p (-1))=some (s,sz1)):=h3
     have hs2:SzOk (updN sz p (-1)):=hs.upd _ (.inl rfl)
     have hkl:=kids_lt hT hpl
     have hAl:(kidsL L J p).length≤4000:=by
      have h1:=starts_le (kids_forest hT hpl)
      have h2:=(hT.lt hpl).2
      rw [show (kidsL L J p).length=_ from starts_length _ _ _ _];omega
     have IH:Hid (∀ (w:World) (mz sz:Nat→Int) (x:Nat) (k:Int) (sz' : Nat→Int),NC L B w T J up rep→Nums w lb (J.length+200) mz→MZ ap J rep cl sz mz→x<J.length→SzOk sz→sizF L J ld n sz x=some (k,sz')→Calls Tryz.prog 186 #[.pointer (some ⟨B.nb,0,none⟩),.slice (some ⟨lb,0,none⟩) (J.length+200) lc,.int .i64 (x:Int)] w (NSPost ap J rep cl lb w k sz')):=ih
     have hN2:=hN.set C (-1)
     have hM2:=hM.upd hr vc hcc hp (-1)
     have kk:Kept (fun q=>q=lb) w (w.setCell ⟨lb,C,none⟩ (.int .i64 (-1))):=Kept.setCell (S:=fun q=>q=lb) (p:=⟨lb,C,none⟩) (Kept.refl _ _) (fun _=>rfl) _
     have hC2:=hC.kept kk (fun q hq e=>by omega)
     have i3:(0:Int)≤(p:Int):=by omega
     have i4:(p:Int)<(J.length:Int):=by omega
     have HM:Hid (∀ sz mz,MZ ap J rep cl sz mz→∀ v,MZ ap J rep cl (updN sz p v) (fun k=>if k=C then v else mz k)):=fun sz mz h v=>h.upd hr vc hcc hp v
     clear ih hC e h3 h2 hM hN m1 m2 hr hmz rx
     go_enter Tryz.func186,Tryz.ntmps186
     go_upto_region 10 with (first | (go_at_call 192;refine cX.mono ?_;rintro e w' ⟨rfl,hw'⟩;obtain rfl:w=w' := hw'.symm))
     obtain ⟨w2,hw2⟩:∃ w2,w.setCell ⟨lb,C,none⟩ (.int .i64 (-1))=w2:=⟨_,rfl⟩
     rw [hw2] at hN2 kk hC2 ⊢
     clear hw2 c1 c2 c3 c4 f1 f2 g1 cX
     obtain ⟨c1,c2,c3,c4⟩:=hC2.cells
     have g1:=(hC2.reps.cell hcl).1
     rw [hp] at g1
     obtain ⟨go,gc,a1,a2,a3⟩:=hC2.args p hpl
     have HA:Hid (∀ w', Kept (fun q=>q=lb) w2 w' → IntsAt w' go ((kidsL L J p).map (fun k:Nat=>(k:Int)))):=fun w' hk=>a2.kept hk (fun a e f=>by have:=(a3 a e).2;omega)
     go_upto_region 11 with fail
     go_quiet (fail)
     have KQ:Same0 w2 (w2.drewN nq):=(Kept.refl _ _).drewN nq
     have hN3:=hN2.kept KQ (fun f=>f)
     have hC3:=hC2.same KQ
     have kk3:Kept (fun q=>q=lb) w (w2.drewN nq):=kk.drewN nq
     have kk4:Kept (fun q=>q=lb) w2 (w2.drewN nq):=(Kept.refl _ _).drewN nq
     obtain ⟨w3,hw3⟩:∃ w3,w2.drewN nq=w3:=⟨_,rfl⟩
     rw [hw3] at hN3 hC3 kk3 kk4 ⊢
     clear hw3 hN2 hC2 kk KQ c1 c2 c3 c4 g1 a1 a2 a3
     go_wp2_with fail
     go_loopw [8,10] (fun s8 s10 wr=>∃ (sum:Int) (j:Nat) (sq mq:Nat→Int),s8=.int .i64 sum∧s10=.int .i64 (j:Int)∧1≤sum∧sum≤2001∧j≤(kidsL L J p).length∧SzOk sq∧Nums wr lb (J.length+200) mq∧MZ ap J rep cl sq mq∧NC L B wr T J up rep∧Kept (fun q=>q=lb) w wr∧Kept (fun q=>q=lb) w2 wr∧Hid (sizA (sizF L J ld n) ((kidsL L J p).drop j) sum sq=some (s,sz1))) (fun _ s10 _=>(kidsL L J p).length-(intOf s10).toNat)
     case atStart=>exact ⟨1,0,_,_,rfl,rfl,by omega,by omega,Nat.zero_le _,hs2,hN3,hM2,hC3,kk3,kk4,H3⟩
     case round=>
      clear hN3 hM2 hC3 kk3 kk4 H3 hs2
      obtain ⟨sum,j,sq,mq,rfl,rfl,hs1,hs2,hj,hsq,hN,hM,hC,hK,hK2,HS⟩:=hrel
      by_cases hjl:j<(kidsL L J p).length
      ·have hd:(kidsL L J p).drop j=(kidsL L J p)[j] :: (kidsL L J p).drop (j+1):=List.drop_eq_getElem_cons hjl
       have hst:=HS.out
       rw [hd,sizA] at hst
       obtain ⟨t,ht⟩:∃ t,(kidsL L J p)[j]=t:=⟨_,rfl⟩
       have htl:t<J.length:=by rw [← ht];exact hkl _ (List.getElem_mem _)
       rw [ht] at hst
       obtain ⟨gb,off,rfl,b1,b2⟩:=(HA.out wr hK2).get (i:=j) (by simpa using hjl)
       have b3:wr.cell? ⟨gb,off+j,none⟩=some (.int .i64 (t:Int)):=by rw [b2];simp [ht]
       have z1:(0:Int)≤(j:Int):=by omega
       have z2:(j:Int)<((kidsL L J p).length:Int):=by omega
       have z3:(j:Int)<4000:=by omega
       cases hq:sizF L J ld n sq (t:Int) with
       | none=>simp [hq] at hst
       | some v=>
        obtain ⟨k1,sq1⟩:=v
        simp only [hq] at hst
        have cS:=IH.out wr mq sq t k1 sq1 hC hN hM htl hsq hq
        obtain ⟨o1,o2⟩:=sizF_ok n _ _ _ _ hsq hq
        have HST:Hid ((if k1 = -1 then some (-1,sq1) else sizA (sizF L J ld n) ((kidsL L J p).drop (j+1)) (min (sum+k1) 2001) sq1)=some (s,sz1)):=hst
        have HC:Hid (∀ w', Kept (fun q=>q=lb) wr w' → NC L B w' T J up rep):=fun w' hk=>hC.kept hk (fun q hq e=>by omega)
        clear hst hC HS hq hsq hd hM hN ht b2
        by_cases hk1:k1 = -1
        ·subst hk1
         have:=HST.out
         rw [if_pos rfl] at this
         simp only [Option.some.injEq,Prod.mk.injEq] at this
         obtain ⟨rfl,rfl⟩:=this
         have:=HE.out
         rw [if_pos rfl] at this
         simp only [Option.some.injEq,Prod.mk.injEq] at this
         obtain ⟨rfl,rfl⟩:=this
         have cS1:Calls Tryz.prog 186 #[.pointer (some ⟨B.nb,0,none⟩),.slice (some ⟨lb,0,none⟩) (J.length+200) lc,.int .i64 (t:Int)] wr fun e w' => e=.returned (.int .i64 (-2))∧∃ mz', Nums w' lb (J.length+200) mz' ∧ MZ ap J rep cl sq1 mz' ∧ Kept (fun q=>q=lb) wr w' := cS.mono (fun e w' ⟨a1,a2⟩=>⟨by rw [a1];rfl,a2⟩)
         clear HE HST IH HA cS
         go_wp2_with (first | (go_at_call 186;refine cS1.mono ?_;rintro e w5 ⟨rfl,mz5,q1,q2,q3⟩))
         go_returns
         exact ⟨rfl,mz5,q1,q2,hK.trans q3 (fun _ _ f=>f)⟩
        ·have:=HST.out
         rw [if_neg hk1] at this
         have HST2:Hid (sizA (sizF L J ld n) ((kidsL L J p).drop (j+1)) (min (sum+k1) 2001) sq1=some (s,sz1)):=this
         have i7:1≤k1:=by omega
         have i8:k1≤2001:=by omega
         have i9:¬ k1 = -2:=by omega
         have cS2:Calls Tryz.prog 186 #[.pointer (some ⟨B.nb,0,none⟩),.slice (some ⟨lb,0,none⟩) (J.length+200) lc,.int .i64 (t:Int)] wr fun e w' => e=.returned (.int .i64 k1)∧∃ mz', Nums w' lb (J.length+200) mz' ∧ MZ ap J rep cl sq1 mz' ∧ Kept (fun q=>q=lb) wr w' := cS.mono (fun e w' ⟨a1,a2⟩=>⟨by rw [a1,if_neg hk1],a2⟩)
         clear HST this o2 HE IH cS HA
         by_cases hm:2000<sum+k1
         ·rw [show min (sum+k1) 2001=2001 by omega] at HST2
          go_wp2_with (first | (go_at_call 186;refine cS2.mono ?_;rintro e w5 ⟨rfl,mz5,q1,q2,q3⟩))
          go_roundw
          case rel=>exact ⟨2001,j+1,sq1,mz5,by go_num,by go_num,by omega,by omega,by omega,o1,q1,q2,HC.out _ q3,hK.trans q3 (fun _ _ f=>f),hK2.trans q3 (fun _ _ f=>f),HST2⟩
          case measure=>simp [intOf];omega
         ·rw [show min (sum+k1) 2001=sum+k1 by omega] at HST2
          go_wp2_with (first | (go_at_call 186;refine cS2.mono ?_;rintro e w5 ⟨rfl,mz5,q1,q2,q3⟩))
          go_roundw
          case rel=>exact ⟨sum+k1,j+1,sq1,mz5,by go_num,by go_num,by omega,by omega,by omega,o1,q1,q2,HC.out _ q3,hK.trans q3 (fun _ _ f=>f),hK2.trans q3 (fun _ _ f=>f),HST2⟩
          case measure=>simp [intOf];omega
      ·have hje:j=(kidsL L J p).length:=by omega
       have z2:¬ (j:Int)<((kidsL L J p).length:Int):=by omega
       have hss:sum=s∧sq=sz1:=by
        have:=HS.out
        rw [hje,List.drop_length] at this
        simpa [sizA] using this
       obtain ⟨rfl,rfl⟩:=hss
       have hne:¬ sum = -1:=by omega
       have:=HE.out
       rw [if_neg hne] at this
       simp only [Option.some.injEq,Prod.mk.injEq] at this
       obtain ⟨rfl,rfl⟩:=this
       obtain ⟨y1,y2⟩:=hN.cell hcl
       have hN9:=hN.set C sum
       have hM9:=HM.out _ _ hM sum
       have k9:Kept (fun q=>q=lb) wr (wr.setCell ⟨lb,C,none⟩ (.int .i64 sum)):=Kept.setCell (S:=fun q=>q=lb) (p:=⟨lb,C,none⟩) (Kept.refl _ _) (fun _=>rfl) _
       have fin:NSPost ap J rep cl lb w sum (updN sq p sum) (.returned (.int .i64 sum)) (wr.setCell ⟨lb,C,none⟩ (.int .i64 sum)):=⟨by rw [if_neg hne],_,hN9,hM9,hK.trans k9 (fun _ _ f=>f)⟩
       clear hN hM hC HS HE HM hN9 hM9 k9 hje HA IH
       go_wp2_with fail
       go_returns
       exact fin
theorem own_base {base:Nat} {w:World} {v:Value} {xs:List Int} (h:Row base w v xs) {q:Nat} (e:v.ownBlock=some q):base≤q:=(World.ownsRow.lt h q e).1
end Go.Proofs.YtdhiiicppcgkbaaGreat
namespace Go.Proofs.YtdhiiicppcgkbaaGreat
set_option linter.unusedVariables false
theorem end_left {L:List Sym} {a c:List Int} {p n:Nat} (h:scan L 1 (a.drop p)=some n) (hp:p≤a.length):endN L (a++c) p=endN L a p:=by
 rw [endN_of h]
 refine endN_of (n:=n) ?_
 rw [List.drop_append_of_le_length hp]
 exact scan_more h c
theorem starts_left {L:List Sym} {a c:List Int}:∀ (k p q:Nat),Forest L a k p q→starts L (a++c) k p=starts L a k p
 | 0,p,q,h=>rfl
 | k+1,p,q,h=>by
  obtain ⟨h1,h2,h3⟩:=h.succ
  obtain ⟨n,e1,e2,e3⟩:=h1
  rw [starts,starts,end_left e1 (by omega),starts_left k _ q h3]
theorem end_right {L:List Sym} {a c:List Int} {p n:Nat} (h:scan L 1 (c.drop p)=some n):endN L (a++c) (a.length+p)=a.length+endN L c p:=by
 rw [endN_of h,← Nat.add_assoc]
 refine endN_of (n:=n) ?_
 rw [List.drop_append,List.drop_eq_nil_of_le (by omega),List.nil_append,Nat.add_sub_cancel_left]
 exact h
theorem starts_right {L:List Sym} {a c:List Int}:∀ (k p q:Nat),Forest L c k p q→starts L (a++c) k (a.length+p)=(starts L c k p).map (fun x=>a.length+x)
 | 0,p,q,h=>rfl
 | k+1,p,q,h=>by
  obtain ⟨h1,h2,h3⟩:=h.succ
  obtain ⟨n,e1,e2,e3⟩:=h1
  rw [starts,starts,end_right e1,starts_right k _ q h3];rfl
theorem scan_sh (L:List Sym) {ap:Int} (h:0≤ap):∀ (k:Nat) (b:List Int),scan L k (b.map (shF ap))=scan L k b
 | 0,b=>by rw [scan_zero,scan_zero]
 | k+1,[]=>rfl
 | k+1,x :: r=>by rw [List.map_cons,scan,scan,arN_sh L h,scan_sh L h]
theorem drop_sh (f:Int→Int) (p:Nat) (b:List Int):(b.map f).drop p=(b.drop p).map f:=by simp
theorem end_sh (L:List Sym) {ap:Int} (h:0≤ap) (b:List Int) (p:Nat):endN L (b.map (shF ap)) p=endN L b p:=by
 unfold endN endO
 rw [drop_sh,scan_sh L h,List.length_map]
theorem starts_sh (L:List Sym) {ap:Int} (h:0≤ap) (b:List Int):∀ (k p:Nat),starts L (b.map (shF ap)) k p=starts L b k p
 | 0,p=>rfl
 | k+1,p=>by rw [starts,starts,end_sh L h,starts_sh L h b]
theorem kids_a {L:List Sym} {a b:List Int} {ap:Int} (h0:0≤ap) (ha:IsT L a) {i:Nat} (hi:i<a.length):kidsL L (jl a b ap) i=argsN L a i:=by
 rw [argsN_eq hi]
 unfold kidsL
 have e:at' (jl a b ap) (i:Nat)=a[i]:=by
  rw [at'_nat _ _ (by simp [jl];omega)]
  unfold jl
  rw [List.getElem_append_left hi]
 rw [e]
 unfold jl
 exact starts_left _ _ _ (Forest.one ha hi).kids.2
theorem kids_b {L:List Sym} {a b:List Int} {ap:Int} (h0:0≤ap) (hb:IsT L b) {i:Nat} (hi:i<b.length):kidsL L (jl a b ap) (a.length+i)=(argsN L b i).map (fun x=>a.length+x):=by
 rw [argsN_eq hi]
 unfold kidsL
 have e:at' (jl a b ap) ((a.length+i:Nat):Int)=shF ap b[i]:=by
  rw [at'_nat _ _ (by simp [jl];omega)]
  unfold jl
  rw [List.getElem_append_right (by omega),List.getElem_map]
  congr 2
  omega
 rw [e,arN_sh L h0]
 unfold jl
 have hf:=(Forest.one hb hi).kids.2
 have hf' : Forest L (b.map (shF ap)) (arN L b[i]) (i+1) (endN L b i):=by
  obtain ⟨n,e1,e2,e3⟩:=hf
  exact ⟨n,by rw [drop_sh,scan_sh L h0];exact e1,e2,by rw [List.length_map];exact e3⟩
 rw [Nat.add_assoc,starts_right _ _ _ hf', starts_sh L h0]
def varN (ap:Bool) (N which:Nat) (n:Int):Nat:=if ap=true then N+2 * (-n-1).toNat+which else N+2 * (-n-1).toNat
def up0 (ap:Bool) (N la:Nat) (T:List Int) (i:Nat):Nat:=if i<N∧at' T i<0 then varN ap N (if la≤i then 1 else 0) (at' T i) else i
def rep0 (N:Nat) (T:List Int) (i:Nat):Int:=if i<N∧0≤at' T i then (i:Int) else -1
def apI (ap:Bool):Int:=if ap=true then 99 else 0
theorem at_jl {a b:List Int} {ap:Bool} {i:Nat} (hi:i<a.length+b.length):at' (jl a b (apI ap)) (i:Nat)=if at' (a++b) i<0∧a.length≤i then at' (a++b) i-apI ap else at' (a++b) i:=by
 rw [at'_nat _ _ (by simp [jl];omega),at'_nat _ _ (by simp;omega)]
 unfold jl
 by_cases h:i<a.length
 ·rw [List.getElem_append_left h,List.getElem_append_left h,if_neg (by omega)]
 ·rw [List.getElem_append_right (by omega),List.getElem_append_right (by omega),List.getElem_map]
  unfold shF
  by_cases q:b[i-a.length]'(by omega)<0
  ·rw [if_pos q,if_pos ⟨q,by omega⟩]
  ·rw [if_neg q,if_neg (fun f=>q f.1)]
theorem nr_zero {ap:Bool} {a b:List Int} (ha:∀ x∈a, -99≤x) (hb:∀ x∈b, -99≤x):∃ cl ρ,NR ap (jl a b (apI ap)) (up0 ap (a.length+b.length) a.length (a++b)) (rep0 (a.length+b.length) (a++b)) cl ρ (ld0 (jl a b (apI ap))):=by
 obtain ⟨N,hN⟩:∃ N,a.length+b.length=N:=⟨_,rfl⟩
 obtain ⟨J,hJ⟩:∃ J,jl a b (apI ap)=J:=⟨_,rfl⟩
 obtain ⟨T,hT⟩:∃ T,a++b=T:=⟨_,rfl⟩
 obtain ⟨la,hla⟩:∃ la,a.length=la:=⟨_,rfl⟩
 have hJl:J.length=N:=by rw [← hJ,← hN];simp [jl]
 have hlow:∀ i,i<N → -99≤at' T i:=by
  intro i hi
  rw [← hT,at'_nat _ _ (by simp;omega)]
  have:=List.getElem_mem (l:=a++b) (n:=i) (by simp;omega)
  rcases List.mem_append.1 this with e | e
  ·exact ha _ e
  ·exact hb _ e
 have hat:∀ i:Nat,i<N→at' J i=if at' T i<0∧la≤i then at' T i-apI ap else at' T i:=by
  intro i hi
  rw [← hJ,← hT,← hla]
  exact at_jl (by omega)
 rw [hN,hJ,hT,hla]
 obtain ⟨u,hu⟩:∃ u,up0 ap N la T=u:=⟨_,rfl⟩
 have u1:∀ i,i<N→at' T i<0→u i=varN ap N (if la≤i then 1 else 0) (at' T i):=fun i h1 h2=>by rw [← hu];unfold up0;rw [if_pos ⟨h1,h2⟩]
 have u2:∀ i,¬ (i<N∧at' T i<0)→u i=i:=fun i h=>by rw [← hu];unfold up0;rw [if_neg h]
 have vn:∀ i,i<N→at' T i<0→VNode ap N (u i)∧N≤u i∧ptN ap N (u i)=at' J i:=by
  intro i h1 h2
  rw [u1 i h1 h2,hat i h1]
  have hl:=hlow i h1
  obtain ⟨n,hn⟩:∃ n:Nat,at' T i = -(n:Int)-1:=⟨(-at' T i-1).toNat,by omega⟩
  rw [hn]
  have e0:(-(-(n:Int)-1)-1).toNat=n:=by omega
  unfold varN VNode ptN apI
  rw [e0]
  cases ap
  ·simp only [Bool.false_eq_true,if_false,false_or,false_and]
   refine ⟨.inr ⟨by omega,by omega,by omega⟩,by omega,?_⟩
   rw [if_neg (by omega),show N+2 * n-N=2 * n by omega,show 2 * n / 2=n by omega]
   split <;> omega
  ·simp only [if_true,true_or,and_true,true_and]
   by_cases hi:la≤i
   ·rw [if_pos hi]
    refine ⟨.inr ⟨by omega,by omega⟩,by omega,?_⟩
    rw [if_neg (by omega),show N+2 * n+1-N=2 * n+1 by omega,if_pos (by omega),show (2 * n+1) / 2=n by omega,if_pos ⟨by omega,hi⟩];omega
   ·rw [if_neg hi]
    refine ⟨.inr ⟨by omega,by omega⟩,by omega,?_⟩
    rw [if_neg (by omega),show N+2 * n+0-N=2 * n by omega,if_neg (by omega),show 2 * n / 2=n by omega,if_neg (fun f=>hi f.2)]
 have uu:∀ i,VNode ap N i→u (u i)=u i:=by
  intro i hi
  by_cases h:i<N∧at' T i<0
  ·have:=(vn i h.1 h.2).2.1
   exact u2 _ (by omega)
  ·rw [u2 i h,u2 i h]
 rw [hu]
 refine ⟨u,fun x=>if x<N then 1 else 0,?_⟩
 have hV:∀ x,VNode ap J.length x ↔ VNode ap N x:=fun x=>by rw [hJl]
 refine ⟨?_,?_,?_,?_,?_,?_,?_,?_⟩
 ·intro x hx
  rw [hV] at hx ⊢
  by_cases h:x<N∧at' T x<0
  ·exact (vn x h.1 h.2).1
  ·rw [u2 x h];exact hx
 ·intro x hx
  rw [hV] at hx ⊢
  by_cases h:x<N∧at' T x<0
  ·exact (vn x h.1 h.2).1
  ·rw [u2 x h];exact hx
 ·intro x hx;exact uu x ((hV x).1 hx)
 ·intro x hx;exact uu x ((hV x).1 hx)
 ·intro x hx;exact Iff.rfl
 ·intro x hx hn
  by_cases h:x<N∧at' T x<0
  ·have:=(vn x h.1 h.2).2.1
   rw [if_neg (by omega),if_pos h.1];omega
  ·exact absurd (u2 x h) hn
 ·intro c hc hcc
  rw [hV] at hc
  by_cases h:c<N
  ·by_cases q:at' T c<0
   ·have:=(vn c h q).2.1;omega
   ·right
    refine ⟨c,?_,by omega,hcc⟩
    unfold rep0;rw [if_pos ⟨h,by omega⟩]
  ·left
   refine ⟨?_,by omega⟩
   unfold rep0;rw [if_neg (fun f=>h f.1)]
 ·intro x hx
  rw [hV] at hx
  rw [hJl]
  by_cases h:x<N
  ·rw [pt_place h]
   by_cases q:at' T x<0
   ·obtain ⟨v1,v2,v3⟩:=vn x h q
    have e1:rep0 N T (u x) = -1:=by unfold rep0;rw [if_neg (fun f=>by omega)]
    rw [e1,if_pos (by omega),v3]
    have hneg:at' J x<0:=by rw [← v3];exact pt_neg v2
    unfold ld0;rw [if_pos ⟨by omega,hneg⟩]
   ·have e0:=u2 x (fun f=>q f.2)
    have e1:rep0 N T x=x:=by unfold rep0;rw [if_pos ⟨h,by omega⟩]
    rw [e0,e1,if_neg (by omega)]
    have hpos:¬ at' J x<0:=by rw [hat x h,if_neg (fun f=>q f.1)];exact q
    unfold ld0;rw [if_neg (fun f=>hpos f.2)]
  ·have e0:=u2 x (fun f=>h f.1)
   have e1:rep0 N T x = -1:=by unfold rep0;rw [if_neg (fun f=>h f.1)]
   rw [e0,e1,if_pos (by omega)]
   have:=pt_neg (ap:=ap) (N:=N) (x:=x) (by omega)
   unfold ld0;rw [if_neg (by omega)]
end Go.Proofs.YtdhiiicppcgkbaaGreat
namespace Go.Proofs.YtdhiiicppcgkbaaGreat
set_option maxRecDepth 100000
set_option linter.unusedVariables false
open Go.RowKit
structure Fam (b2:Nat) (w:World) (vs:Nat→Value) (xs:Nat→List Int) (va:Value) (AA:List (List Int)):Prop where
 rows:∀ i,i<3→Row b2 w (vs i) (xs i)
 ap:∀ i j,i<3→j<3→i≠j→∀ q,(vs i).ownBlock=some q→(vs j).ownBlock≠some q
 apa:∀ i,i<3→∀ q,(vs i).ownBlock=some q→va.ownBlock≠some q
 ar:∃ cs,w.ownsRow b2 22 1 va AA.length cs∧∀ j (h:j<AA.length),∃ v,cs[j]? = some v∧Row b2 w v AA[j]∧∀ q,v.ownBlock=some q→va.ownBlock≠some q∧∀ i,i<3→(vs i).ownBlock≠some q
theorem Fam.keep {b2:Nat} {S:Nat→Prop} {w w' : World} {vs:Nat→Value} {xs:Nat→List Int} {va:Value} {AA:List (List Int)} (h:Fam b2 w vs xs va AA) (hk:Kept S w w') (hs:∀ k,b2≤k→¬ S k):Fam b2 w' vs xs va AA:=by
 refine ⟨fun i hi=>hk.row (h.rows i hi) (fun q e=>hs q (own_base (h.rows i hi) e)),h.ap,h.apa,?_⟩
 obtain ⟨cs,h1,h2⟩:=h.ar
 refine ⟨cs,hk.row h1 (fun q e=>hs q (World.ownsRow.lt h1 q e).1),fun j hj=>?_⟩
 obtain ⟨v,a1,a2,a3⟩:=h2 j hj
 exact ⟨v,a1,hk.row a2 (fun q e=>hs q (own_base a2 e)),a3⟩
theorem Fam.same {b2:Nat} {w w' : World} {vs:Nat→Value} {xs:Nat→List Int} {va:Value} {AA:List (List Int)} (h:Fam b2 w vs xs va AA) (hk:Same0 w w'):Fam b2 w' vs xs va AA:=h.keep hk (fun _ _ f=>f)
theorem Fam.push {b2:Nat} {w w1 w9:World} {vs:Nat→Value} {xs:Nat→List Int} {va:Value} {AA:List (List Int)} (h:Fam b2 w vs xs va AA) {i:Nat} (hi:i<3) {gg cap' l:Nat} {z:Int} (hl:(xs i).length=l) (hk:Same0 w w1) (hown:w9.ownsRow b2 3 1 (.slice (some ⟨gg,0,none⟩) (l+1) cap') (l+1) (iv (xs i) ++ [.int .i64 z])) (hgrow:w1.grownBy w9 (vs i).ownBlock) (hat:(vs i).ownBlock=some gg∨w.heap.size≤gg) {xs' : Nat→List Int} (e1:xs' i=xs i ++ [z]) (e2:∀ j,j<3→j≠i→xs' j=xs j) :
  Fam b2 w9 (fun j=>if j=i then .slice (some ⟨gg,0,none⟩) (l+1) cap' else vs j) xs' va AA∧Kept (fun q=>b2≤q) w w9:=by
 have kg:Kept (fun q=>(vs i).ownBlock=some q) w w9:=Kept.grown (Kept.mono hk (fun _ _ f=>f.elim)) hgrow (fun q e _=>e)
 have fresh:∀ (v:Value) (q:Nat),v.ownBlock=some q→q<w.heap.size→(vs i).ownBlock≠some q→q≠gg:=by
  intro v q _ h1 h2 e
  subst e
  rcases hat with f | f
  ·exact h2 f
  ·omega
 obtain ⟨cs,a1,a2⟩:=h.ar
 refine ⟨⟨?_,?_,?_,cs,kg.row a1 (fun q e f=>h.apa i hi q f e),fun j hj=>?_⟩,kg.mono (fun q _ e=>own_base (h.rows i hi) e)⟩
 ·intro j hj
  by_cases ej:j=i
  ·subst ej
   simp only [if_true]
   rw [e1]
   have:(xs j ++ [z]).length=l+1:=by simp [hl]
   show w9.ownsRow b2 3 1 _ (xs j ++ [z]).length _
   rw [this,iv_append];exact hown
  ·simp only [ej,if_false]
   rw [e2 j hj ej]
   exact kg.row (h.rows j hj) (fun q e f=>h.ap j i hj hi ej q e f)
 ·intro j k hj hkk hjk q e f
  by_cases ej:j=i
  ·subst ej
   simp only [if_true] at e
   have ek:k≠j:=fun g=>hjk g.symm
   simp only [ek,if_false] at f
   simp only [Value.ownBlock,Option.some.injEq] at e
   subst e
   exact fresh (vs k) gg f (World.ownsRow.lt (h.rows k hkk) gg f).2 (fun g=>h.ap k j hkk hj ek gg f g) rfl
  ·simp only [ej,if_false] at e
   by_cases ek:k=i
   ·subst ek
    simp only [if_true,Value.ownBlock,Option.some.injEq] at f
    subst f
    exact fresh (vs j) gg e (World.ownsRow.lt (h.rows j hj) gg e).2 (fun g=>h.ap j k hj hkk hjk gg e g) rfl
   ·simp only [ek,if_false] at f
    exact h.ap j k hj hkk hjk q e f
 ·intro j hj q e f
  by_cases ej:j=i
  ·subst ej
   simp only [if_true,Value.ownBlock,Option.some.injEq] at e
   subst e
   exact fresh va gg f (World.ownsRow.lt a1 gg f).2 (fun g=>h.apa j hj gg g f) rfl
  ·simp only [ej,if_false] at e
   exact h.apa j hj q e f
 ·obtain ⟨v,b1,b2', b3⟩:=a2 j hj
  refine ⟨v,b1,kg.row b2' (fun q e f=>(b3 q e).2 i hi f),fun q e=>⟨(b3 q e).1,fun k hkk f=>?_⟩⟩
  by_cases ek:k=i
  ·subst ek
   simp only [if_true,Value.ownBlock,Option.some.injEq] at f
   subst f
   exact fresh v gg e (World.ownsRow.lt b2' gg e).2 (fun g=>(b3 gg e).2 k hi g) rfl
  ·simp only [ek,if_false] at f
   exact (b3 q e).2 k hkk f
theorem Fam.more {b2:Nat} {w w1 w9:World} {vs:Nat→Value} {xs:Nat→List Int} {va:Value} {AA:List (List Int)} {cs0:List Value} (h:Fam b2 w vs xs va AA) {gg cap' : Nat} {v:Value} {ys:List Int} (hv:Row b2 w v ys) (hva:∀ q,v.ownBlock=some q→va.ownBlock≠some q∧∀ i,i<3→(vs i).ownBlock≠some q) (hcs:w.ownsRow b2 22 1 va AA.length cs0) (hk:Same0 w w1) (hown:w9.ownsRow b2 22 1 (.slice (some ⟨gg,0,none⟩) (AA.length+1) cap') (AA.length+1) (cs0 ++ [v])) (hgrow:w1.grownBy w9 va.ownBlock) (hat:va.ownBlock=some gg∨w.heap.size≤gg) :
  Fam b2 w9 vs xs (.slice (some ⟨gg,0,none⟩) (AA.length+1) cap') (AA ++ [ys])∧Kept (fun q=>b2≤q) w w9:=by
 have kg:Kept (fun q=>va.ownBlock=some q) w w9:=Kept.grown (Kept.mono hk (fun _ _ f=>f.elim)) hgrow (fun q e _=>e)
 have fresh:∀ (q:Nat),q<w.heap.size→va.ownBlock≠some q→q≠gg:=by
  intro q h1 h2 e
  subst e
  rcases hat with f | f
  ·exact h2 f
  ·omega
 obtain ⟨cs,a1,a2⟩:=h.ar
 have hcc:cs=cs0:=by
  have l1:=a1.1
  have l2:=hcs.1
  refine List.ext_getElem? (fun i=>?_)
  by_cases hi:i<AA.length
  ·rcases a1.2 with ⟨e,_⟩ | ⟨g,cap,cur,hv', _⟩
   ·have:=a1.2
    rcases hcs.2 with ⟨_,e0⟩ | ⟨g,cap,cur,hv', _⟩
    ·omega
    ·rw [e] at hv'; cases hv'
   ·have c1:=World.ownsRow.cellAt (g:=g) (cap:=cap) (hv' ▸ a1) i (by omega)
    have c2:=World.ownsRow.cellAt (g:=g) (cap:=cap) (hv' ▸ hcs) i (by omega)
    rw [← c1,← c2]
  ·rw [List.getElem?_eq_none (by omega),List.getElem?_eq_none (by omega)]
 subst hcc
 have lcs:cs.length=AA.length:=by have:=a1.1;omega
 refine ⟨⟨fun i hi=>kg.row (h.rows i hi) (fun q e f=>h.apa i hi q e f),h.ap,fun i hi q e f=>?_,cs ++ [v],by simpa using hown,fun j hj=>?_⟩,kg.mono (fun q _ e=>(World.ownsRow.lt a1 q e).1)⟩
 ·simp only [Value.ownBlock,Option.some.injEq] at f
  subst f
  exact fresh gg (World.ownsRow.lt (h.rows i hi) gg e).2 (h.apa i hi gg e) rfl
 ·by_cases e:j=AA.length
  ·subst e
   refine ⟨v,by rw [List.getElem?_append_right (by omega),lcs];simp,?_,fun q e=>⟨fun f=>?_,(hva q e).2⟩⟩
   ·have e3:(AA ++ [ys])[AA.length]'hj=ys:=by simp
    rw [e3]
    exact kg.row hv (fun q e f=>(hva q e).1 f)
   ·simp only [Value.ownBlock,Option.some.injEq] at f
    subst f
    exact fresh gg (World.ownsRow.lt hv gg e).2 (hva gg e).1 rfl
  ·have hj' : j<AA.length:=by simp at hj;omega
   obtain ⟨u,b1,b2', b3⟩:=a2 j hj'
   refine ⟨u,by rw [List.getElem?_append_left (by omega)];exact b1,?_,fun q e=>⟨fun f=>?_,(b3 q e).2⟩⟩
   ·rw [List.getElem_append_left hj']
    exact kg.row b2' (fun q e f=>(b3 q e).1 f)
   ·simp only [Value.ownBlock,Option.some.injEq] at f
    subst f
    exact fresh gg (World.ownsRow.lt b2' gg e).2 (b3 gg e).1 rfl
end Go.Proofs.YtdhiiicppcgkbaaGreat
namespace Go.Proofs.YtdhiiicppcgkbaaGreat
set_option maxRecDepth 100000
set_option linter.unusedVariables false
open Go.RowKit
attribute [local go_sem ↓] Go.wp_at_zero Go.wp_at_succ
structure TwoR (w0 w:World) (vo vt:Value) (O W:List Int):Prop where
 o:Row w0.heap.size w vo O
 t:Row w0.heap.size w vt W
 ap:∀ q,vo.ownBlock=some q→vt.ownBlock≠some q
 kept:Same0 w0 w
def tri (a b c:List Int):Nat→List Int:=fun i=>if i=0 then a else if i=1 then b else c
theorem tri_one {T U U' R:List Int}:∀ j,j<3→j≠1→tri T U' R j=tri T U R j:=fun j _ e=>by unfold tri;rw [if_neg e,if_neg e]
theorem tri_two {T U R R' : List Int}:∀ j,j<3→j≠2→tri T U R' j=tri T U R j:=by
 intro j h e
 unfold tri
 by_cases e0:j=0
 ·rw [if_pos e0,if_pos e0]
 ·rw [if_neg e0,if_neg e0]
  by_cases e1:j=1
  ·rw [if_pos e1,if_pos e1]
  ·omega
structure LS (w0 w:World) (rv sa sb:Value) (vs:Nat→Value) (va:Value) (xs:Nat→List Int) (AA:List (List Int)):Prop where
 fam:Fam (w0.heap.size+2) w vs xs va AA
 blk:w.heap[w0.heap.size]? = some (.cells #[rv,vs 0,va,vs 1,vs 2] 286 (0,0))
 two:w.heap[w0.heap.size+1]? = some (.cells #[sa,sb] 64 (0,0))
 kept:Same0 w0 w
 big:w0.heap.size+2≤w.heap.size
theorem LS.same {w0 w w' : World} {rv sa sb:Value} {vs:Nat→Value} {va:Value} {xs:Nat→List Int} {AA:List (List Int)} (h:LS w0 w rv sa sb vs va xs AA) (hk:Same0 w w'):LS w0 w' rv sa sb vs va xs AA:=
 ⟨h.fam.same hk,hk.at0 h.blk,hk.at0 h.two,h.kept.trans' hk,Nat.le_trans h.big hk.size⟩
theorem LS.store {w0 w w9:World} {rv sa sb:Value} {vs vs' : Nat→Value} {va va' : Value} {xs xs' : Nat→List Int} {AA AA' : List (List Int)} (h:LS w0 w rv sa sb vs va xs AA) (hf:Fam (w0.heap.size+2) w9 vs' xs' va' AA') (hk:Kept (fun q=>w0.heap.size+2≤q) w w9) {s:Nat} {v:Value} (hs:(#[rv,vs 0,va,vs 1,vs 2]:Array Value).setIfInBounds s v = #[rv,vs' 0,va', vs' 1,vs' 2]):LS w0 (w9.setCell ⟨w0.heap.size,s,none⟩ v) rv sa sb vs' va' xs' AA' ∧ w9.heap[w0.heap.size]? = some (.cells #[rv,vs 0,va,vs 1,vs 2] 286 (0,0)):=by
 have b1:=hk.at h.blk (by omega)
 have b2:=hk.at h.two (by omega)
 have k2:Kept (fun q=>q=w0.heap.size) w9 (w9.setCell ⟨w0.heap.size,s,none⟩ v):=Kept.setCell (S:=fun q=>q=w0.heap.size) (p:=⟨w0.heap.size,s,none⟩) (Kept.refl _ _) (fun _=>rfl) _
 refine ⟨⟨hf.keep k2 (fun q hq e=>by omega),by rw [setAt b1,hs],k2.at b2 (by omega),(h.kept.trans hk (fun q hq f=>by omega)).trans k2 (fun q hq e=>by omega),?_⟩,b1⟩
 have:=hk.size
 have:=k2.size
 have:=h.big
 omega
theorem LS.cells {w0 w:World} {rv sa sb:Value} {vs:Nat→Value} {va:Value} {xs:Nat→List Int} {AA:List (List Int)} (h:LS w0 w rv sa sb vs va xs AA):w.cell? ⟨w0.heap.size,1,none⟩=some (vs 0)∧w.cell? ⟨w0.heap.size,2,none⟩=some va∧w.cell? ⟨w0.heap.size,3,none⟩=some (vs 1)∧w.cell? ⟨w0.heap.size,4,none⟩=some (vs 2)∧w.cell? ⟨w0.heap.size+1,0,none⟩=some sa∧w.cell? ⟨w0.heap.size+1,1,none⟩=some sb∧∀ s,w.frozen? ⟨w0.heap.size,s,none⟩=false:=
 ⟨cellAt h.blk 1,cellAt h.blk 2,cellAt h.blk 3,cellAt h.blk 4,cellAt h.two 0,cellAt h.two 1,fun s=>frozenAt h.blk s⟩
theorem LS.push {w0 w w1 w9:World} {rv sa sb:Value} {vs:Nat→Value} {va:Value} {xs xs' : Nat→List Int} {AA:List (List Int)} (h:LS w0 w rv sa sb vs va xs AA) {i s:Nat} (hi:i<3) (hs:s=if i=0 then 1 else i+2) {gg cap' l H:Nat} {z:Int} (hl:(xs i).length=l) (hk:Same0 w w1) (hown:w9.ownsRow (w0.heap.size+2) 3 1 (.slice (some ⟨gg,0,none⟩) (l+1) cap') (l+1) (iv (xs i) ++ [.int .i64 z])) (hgrow:w1.grownBy w9 (vs i).ownBlock) (hat:(vs i).ownBlock=some gg∨gg=H) (hH:w.heap.size≤H) (e1:xs' i=xs i ++ [z]) (e2:∀ j,j<3→j≠i→xs' j=xs j) :
  LS w0 (w9.setCell ⟨w0.heap.size,s,none⟩ (.slice (some ⟨gg,0,none⟩) (l+1) cap')) rv sa sb (fun j=>if j=i then .slice (some ⟨gg,0,none⟩) (l+1) cap' else vs j) va xs' AA∧w9.cell? ⟨w0.heap.size,s,none⟩=some (vs i)∧w9.frozen? ⟨w0.heap.size,s,none⟩=false:=by
 obtain ⟨f1,f2⟩:=h.fam.push hi hl hk hown hgrow (hat.imp id (fun e=>by omega)) e1 e2
 rcases (show i=0∨i=1∨i=2 by omega) with rfl | rfl | rfl
 ·obtain rfl:s=1:=by simpa using hs
  obtain ⟨g1,g2⟩:=h.store f1 f2 (s:=1) (v:=.slice (some ⟨gg,0,none⟩) (l+1) cap') (by simp)
  exact ⟨g1,cellAt g2 1,frozenAt g2 1⟩
 ·obtain rfl:s=3:=by simpa using hs
  obtain ⟨g1,g2⟩:=h.store f1 f2 (s:=3) (v:=.slice (some ⟨gg,0,none⟩) (l+1) cap') (by simp)
  exact ⟨g1,cellAt g2 3,frozenAt g2 3⟩
 ·obtain rfl:s=4:=by simpa using hs
  obtain ⟨g1,g2⟩:=h.store f1 f2 (s:=4) (v:=.slice (some ⟨gg,0,none⟩) (l+1) cap') (by simp)
  exact ⟨g1,cellAt g2 4,frozenAt g2 4⟩
theorem LS.more {w0 w w1 w9:World} {rv sa sb:Value} {vs:Nat→Value} {va:Value} {xs:Nat→List Int} {AA:List (List Int)} {cs0:List Value} (h:LS w0 w rv sa sb vs va xs AA) {gg cap' l H:Nat} {v:Value} {ys:List Int} (hl:AA.length=l) (hv:Row (w0.heap.size+2) w v ys) (hva:∀ q,v.ownBlock=some q→va.ownBlock≠some q∧∀ i,i<3→(vs i).ownBlock≠some q) (hcs:w.ownsRow (w0.heap.size+2) 22 1 va l cs0) (hk:Same0 w w1) (hown:w9.ownsRow (w0.heap.size+2) 22 1 (.slice (some ⟨gg,0,none⟩) (l+1) cap') (l+1) (cs0 ++ [v])) (hgrow:w1.grownBy w9 va.ownBlock) (hat:va.ownBlock=some gg∨gg=H) (hH:w.heap.size≤H) :
  LS w0 (w9.setCell ⟨w0.heap.size,2,none⟩ (.slice (some ⟨gg,0,none⟩) (l+1) cap')) rv sa sb vs (.slice (some ⟨gg,0,none⟩) (l+1) cap') xs (AA ++ [ys])∧w9.cell? ⟨w0.heap.size,2,none⟩=some va∧w9.frozen? ⟨w0.heap.size,2,none⟩=false:=by
 subst hl
 obtain ⟨f1,f2⟩:=h.fam.more hv hva hcs hk hown hgrow (hat.imp id (fun e=>by omega))
 obtain ⟨g1,g2⟩:=h.store f1 f2 (s:=2) (v:=.slice (some ⟨gg,0,none⟩) (AA.length+1) cap') (by simp)
 exact ⟨g1,cellAt g2 2,frozenAt g2 2⟩
theorem LS.pe {w0 w:World} {rv sa sb:Value} {vs:Nat→Value} {va:Value} {xs xs' : Nat→List Int} {AA:List (List Int)} (h:LS w0 w rv sa sb vs va xs AA) {i s:Nat} (hi:i<3) (hs:s=if i=0 then 1 else i+2) {l:Nat} {z:Int} (hl:(xs i).length=l) (e1:xs' i=xs i ++ [z]) (e2:∀ j,j<3→j≠i→xs' j=xs j) :
  ∃ ro rc,vs i=.slice ro l rc∧w.ownsRow (w0.heap.size+2) 3 1 (.slice ro l rc) l (iv (xs i))∧w0.heap.size+2≤(w.alloc (.cells #[.int .i64 z] 3)).heap.size∧Hid (∀ gg cap' w9,w9.ownsRow (w0.heap.size+2) 3 1 (.slice (some ⟨gg,0,none⟩) (l+1) cap') (l+1) (iv (xs i) ++ [.int .i64 z])→(w.alloc (.cells #[.int .i64 z] 3)).grownBy w9 (Value.slice ro l rc).ownBlock→((Value.slice ro l rc).ownBlock=some gg∨gg=(w.alloc (.cells #[.int .i64 z] 3)).heap.size)→LS w0 (w9.setCell ⟨w0.heap.size,s,none⟩ (.slice (some ⟨gg,0,none⟩) (l+1) cap')) rv sa sb (fun j=>if j=i then .slice (some ⟨gg,0,none⟩) (l+1) cap' else vs j) va xs' AA∧w9.cell? ⟨w0.heap.size,s,none⟩=some (.slice ro l rc)∧w9.frozen? ⟨w0.heap.size,s,none⟩=false):=by
 have h0:w.ownsRow (w0.heap.size+2) 3 1 (vs i) l (iv (xs i)):=by
  have:=h.fam.rows i hi
  unfold Row at this
  rw [hl] at this;exact this
 obtain ⟨ro,rc,hv⟩:=row_shape h0
 have kd:Same0 w (w.alloc (.cells #[.int .i64 z] 3)):=Kept.alloc (Kept.refl _ w) _
 refine ⟨ro,rc,hv,hv ▸ h0,by have:=kd.size;have:=h.big;omega,?_⟩
 intro gg cap' w9 q1 q2 q3
 rw [← hv] at q2 q3 ⊢
 exact h.push hi hs hl kd q1 q2 q3 kd.size e1 e2
theorem Fam.put {b2:Nat} {w:World} {vs:Nat→Value} {xs xs' : Nat→List Int} {va:Value} {AA:List (List Int)} (h:Fam b2 w vs xs va AA) {i:Nat} (hi:i<3) {g n cap k:Nat} {z:Int} (hv:vs i=.slice (some ⟨g,0,none⟩) n cap) (hl:(xs i).length=n) (e1:xs' i=(xs i).set k z) (e2:∀ j,j<3→j≠i→xs' j=xs j) :
  Fam b2 (w.setCell ⟨g,k,none⟩ (.int .i64 z)) vs xs' va AA∧Kept (fun q=>b2≤q) w (w.setCell ⟨g,k,none⟩ (.int .i64 z)):=by
 have kg:Kept (fun q=>q=g) w (w.setCell ⟨g,k,none⟩ (.int .i64 z)):=Kept.setCell (S:=fun q=>q=g) (p:=⟨g,k,none⟩) (Kept.refl _ _) (fun _=>rfl) _
 have own:(vs i).ownBlock=some g:=by rw [hv];rfl
 have hbase:b2≤g:=own_base (h.rows i hi) own
 obtain ⟨cs,a1,a2⟩:=h.ar
 refine ⟨⟨?_,h.ap,h.apa,cs,kg.row a1 (fun q e f=>h.apa i hi g own (f ▸ e)),fun j hj=>?_⟩,kg.mono (fun q _ e=>by omega)⟩
 ·intro j hj
  by_cases ej:j=i
  ·subst ej
   have h0:w.ownsRow b2 3 1 (vs j) n (iv (xs j)):=by
    have:=h.rows j hj
    unfold Row at this
    rw [hl] at this;exact this
   rw [hv] at h0 ⊢
   have:=(h0.stored k (.int .i64 z)).1
   rw [e1]
   unfold Row
   rw [List.length_set,hl]
   have e3:(iv (xs j)).set k (.int .i64 z)=iv ((xs j).set k z):=by unfold iv;rw [List.map_set]
   rw [← e3];exact this
  ·rw [e2 j hj ej]
   exact kg.row (h.rows j hj) (fun q e f=>h.ap j i hj hi ej q e (by rw [f];exact own))
 ·obtain ⟨v,b1,b2', b3⟩:=a2 j hj
  exact ⟨v,b1,kg.row b2' (fun q e f=>(b3 q e).2 i hi (by rw [f];exact own)),b3⟩
theorem LS.put {w0 w:World} {rv sa sb:Value} {vs:Nat→Value} {va:Value} {xs xs' : Nat→List Int} {AA:List (List Int)} (h:LS w0 w rv sa sb vs va xs AA) {i:Nat} (hi:i<3) {g n cap k:Nat} {z:Int} (hv:vs i=.slice (some ⟨g,0,none⟩) n cap) (hl:(xs i).length=n) (e1:xs' i=(xs i).set k z) (e2:∀ j,j<3→j≠i→xs' j=xs j) :
  LS w0 (w.setCell ⟨g,k,none⟩ (.int .i64 z)) rv sa sb vs va xs' AA:=by
 obtain ⟨f1,f2⟩:=h.fam.put (k:=k) hi hv hl e1 e2
 refine ⟨f1,f2.at h.blk (by omega),f2.at h.two (by omega),h.kept.trans f2 (fun q hq f=>by omega),?_⟩
 have:=f2.size
 have:=h.big
 omega
theorem nums_row {base:Nat} {w:World} {g n cap:Nat} {xs:List Int} (h:w.ownsRow base 3 1 (.slice (some ⟨g,0,none⟩) n cap) n (iv xs)):Nums w g n (fun i=>at' xs i):=by
 have hl:xs.length=n:=by have:=h.1;simp [iv] at this;omega
 rcases h.2 with ⟨e,_⟩ | ⟨g', cap', cur,e,hb,hg,h1,h2,h3,h4⟩
 ·cases e
 ·simp only [Value.slice.injEq,Option.some.injEq,Addr.mk.injEq,and_true,true_and] at e
  obtain ⟨rfl,rfl⟩:=e
  refine ⟨cur,_,hg,by omega,fun i hi=>?_⟩
  have e1:cur[i]? = (cur.toList.take (n * 1))[i]? := by rw [List.getElem?_take_of_lt (by omega)];simp
  rw [e1,h4]
  unfold iv
  rw [List.getElem?_map,List.getElem?_eq_getElem (by omega)]
  show _=some (Value.int .i64 (at' xs (i:Nat)))
  rw [at'_nat _ _ (by omega)];rfl
theorem Fam.form {b2:Nat} {w:World} {vs:Nat→Value} {xs:Nat→List Int} {va:Value} {AA:List (List Int)} (h:Fam b2 w vs xs va AA) {i n:Nat} (hi:i<3) (hl:(xs i).length=n) (hn:0<n):∃ g cap,vs i=.slice (some ⟨g,0,none⟩) n cap∧Nums w g n (fun k=>at' (xs i) k)∧g<w.heap.size:=by
 have h0:w.ownsRow b2 3 1 (vs i) n (iv (xs i)):=by
  have:=h.rows i hi
  unfold Row at this
  rw [hl] at this;exact this
 obtain ⟨g,cap,e,h1,h2⟩:=World.ownsRow.form h0 hn
 exact ⟨g,cap,e,nums_row (e ▸ h0),h2⟩
theorem LS.net {w0 w:World} {rv sa sb:Value} {vs:Nat→Value} {va:Value} {L:List Sym} {T J U R:List Int} {N:Nat} {up:Nat→Nat} {rep:Nat→Int} (h:LS w0 w rv sa sb vs va (tri T U R) ((List.range N).map (fun p=>(kidsL L J p).map (fun k:Nat=>(k:Int))))) (hJ:J.length=N) (hT:T.length=N) (hN:0<N) (hU:U.length=N+200) (hR:R.length=N+200) (eU:∀ i,i<N+200→at' U i=(up i:Int)) (eR:∀ i,i<N+200→at' R i=rep i) :
  ∃ B,B.nb=w0.heap.size∧NC L B w T J up rep∧B.top≤w.heap.size∧w0.heap.size≤B.ub∧w0.heap.size≤B.rb:=by
 obtain ⟨tb,tc,t1,t2,t3⟩:=h.fam.form (i:=0) (n:=N) (by omega) hT hN
 obtain ⟨ub,uc,u1,u2,u3⟩:=h.fam.form (i:=1) (n:=N+200) (by omega) hU (by omega)
 obtain ⟨rb,rc,r1,r2,r3⟩:=h.fam.form (i:=2) (n:=N+200) (by omega) hR (by omega)
 obtain ⟨cs,a1,a2⟩:=h.fam.ar
 rw [List.length_map,List.length_range] at a1
 obtain ⟨ab,ac,v1,v2,v3⟩:=World.ownsRow.form a1 hN
 have o0:(vs 0).ownBlock=some tb:=by rw [t1];rfl
 have o1:(vs 1).ownBlock=some ub:=by rw [u1];rfl
 have o2:(vs 2).ownBlock=some rb:=by rw [r1];rfl
 have oa:va.ownBlock=some ab:=by rw [v1];rfl
 have hb1:=own_base (h.fam.rows 1 (by omega)) o1
 have hb2:=own_base (h.fam.rows 2 (by omega)) o2
 have hbig:=h.big
 have n2:tb≠ub:=fun e=>h.fam.ap 0 1 (by omega) (by omega) (by omega) tb o0 (by rw [e];exact o1)
 have n2' : tb≠rb:=fun e=>h.fam.ap 0 2 (by omega) (by omega) (by omega) tb o0 (by rw [e];exact o2)
 have n3:ab≠ub:=fun e=>h.fam.apa 1 (by omega) ub o1 (by rw [← e];exact oa)
 have n3' : ab≠rb:=fun e=>h.fam.apa 2 (by omega) rb o2 (by rw [← e];exact oa)
 have n4:ub≠rb:=fun e=>h.fam.ap 1 2 (by omega) (by omega) (by omega) ub o1 (by rw [e];exact o2)
 refine ⟨⟨w0.heap.size,tb,ab,ub,rb,tc,ac,uc,rc,rv,w.heap.size⟩,rfl,⟨?_,?_,?_,v3,?_,?_,?_,?_,?_,n4,by show w0.heap.size<w.heap.size;omega,t3,v3,u3,r3⟩,Nat.le_refl _,by show w0.heap.size≤ub;omega,by show w0.heap.size≤rb;omega⟩
 ·show w.heap[w0.heap.size]? = _
  rw [h.blk,t1,u1,r1,v1,hJ]
 ·show Nums w tb J.length _
  rw [hJ];exact t2
 ·intro p hp
  rw [hJ] at hp
  obtain ⟨v,b1,b2,b3⟩:=a2 p (by simpa using hp)
  have hc:=World.ownsRow.cellAt (v1 ▸ a1) p (by omega)
  have e3:((List.range N).map (fun p=>(kidsL L J p).map (fun k:Nat=>(k:Int))))[p]'(by simpa using hp)=(kidsL L J p).map (fun k:Nat=>(k:Int)):=by simp
  rw [e3] at b2
  obtain ⟨go,gc,rfl,g2,g3,g4⟩:=b2.ints
  rw [List.length_map] at b1
  refine ⟨go,gc,by rw [hc,b1],g2,fun a e=>?_⟩
  subst e
  have hq:=b3 a.block rfl
  refine ⟨?_,(g4 a rfl).2⟩
  rintro (f | f)
  ·exact hq.2 1 (by omega) (by rw [f];exact o1)
  ·exact hq.2 2 (by omega) (by rw [f];exact o2)
 ·show Nums w ub (J.length+200) _
  rw [hJ];exact u2.congr eU
 ·show Nums w rb (J.length+200) _
  rw [hJ];exact r2.congr eR
 ·rintro (f | f)
  ·have:w0.heap.size=ub:=f;omega
  ·have:w0.heap.size=rb:=f;omega
 ·rintro (f | f)
  ·exact n2 f
  ·exact n2' f
 ·rintro (f | f)
  ·exact n3 f
  ·exact n3' f
def LMade (w:World) (L:List Sym) (ap:Bool) (a b:List Int) (e:Ending) (w' : World):Prop:=∃ B,e=.returned (.pointer (some ⟨B.nb,0,none⟩))∧NC L B w' (a++b) (jl a b (apI ap)) (up0 ap (a.length+b.length) a.length (a++b)) (rep0 (a.length+b.length) (a++b))∧B.top≤w'.heap.size∧Same0 w w' ∧ w.heap.size≤B.ub∧w.heap.size≤B.rb
theorem variable_any (w:World) (N which:Nat) (ap:Bool) (n:Nat) (hN:N≤4000) (hw:which≤1) (hn:n≤98):Calls Tryz.prog 191 #[.int .i64 (N:Int),.bool ap,.int .i64 (which:Int),.int .i64 (n:Int)] w fun e w' => e=.returned (.int .i64 (varN ap N which (-(n:Int)-1):Int))∧w' = w:=by
 have e0:(-(-(n:Int)-1)-1).toNat=n:=by omega
 cases ap
 ·have e1:((varN false N which (-(n:Int)-1):Nat):Int)=(N:Int)+2 * (n:Int):=by unfold varN;rw [e0];simp
  rw [e1]
  have i1:(N:Int)≤4000:=by omega
  have i2:(n:Int)≤98:=by omega
  go_enter Tryz.func191,Tryz.ntmps191
  go_wp2_with fail
  go_returns
  exact ⟨rfl,rfl⟩
 ·have e1:((varN true N which (-(n:Int)-1):Nat):Int)=(N:Int)+2 * (n:Int)+(which:Int):=by unfold varN;rw [e0];simp
  rw [e1]
  have i1:(N:Int)≤4000:=by omega
  have i2:(n:Int)≤98:=by omega
  have i3:(which:Int)≤1:=by omega
  go_enter Tryz.func191,Tryz.ntmps191
  go_wp2_with fail
  go_returns
  exact ⟨rfl,rfl⟩
end Go.Proofs.YtdhiiicppcgkbaaGreat
namespace Go.Proofs.YtdhiiicppcgkbaaGreat
set_option linter.unusedVariables false
end Go.Proofs.YtdhiiicppcgkbaaGreat
