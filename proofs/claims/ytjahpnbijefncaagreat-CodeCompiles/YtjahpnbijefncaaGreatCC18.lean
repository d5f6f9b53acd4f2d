import Derived.Test.YtjahpnbijefncaaGreatCC17
namespace Go.Proofs.YtjahpnbijefncaaGreat
set_option maxRecDepth 100000
set_option linter.unusedVariables false
set_option maxHeartbeats 8000000
section
open Go.RowKit
attribute [local go_sem ↓] Go.wp_at_zero Go.wp_at_succ
def MZ (ap:Bool) (J:List Int) (rep:Nat->Int) (cl:Nat->Nat) (sz:Nat->Int) (mz:Nat->Int):Prop:=∀ c,Y2 ap J.length c->cl c=c->(∀ p:Nat,rep c=p->mz c=sz p)∧(rep c<0->mz c=0∨mz c=1)
theorem MZ.upd {ap:Bool} {J:List Int} {up:Nat->Nat} {rep:Nat->Int} {cl ρ:Nat->Nat} {ld:Int->Int} (hr:NR ap J up rep cl ρ ld) {sz mz:Nat->Int} (h:MZ ap J rep cl sz mz) {c p:Nat} (hc:Y2 ap J.length c) (hcc:cl c=c) (hp:rep c=p) (v:Int):MZ ap J rep cl (Kg sz p v) (λ k=>if k=c then v else mz k):=by
 have hcp:cl p=c:=by
  rcases hr.reps c hc hcc with ⟨a,_⟩ | ⟨q,a1,a2,a3⟩
  ·omega
  ·have:q=p:=by omega
   rw [<- this];exact a3
 intro d hd hdd;obtain ⟨h1,h2⟩:=h d hd hdd;refine ⟨λ q hq=>?_,λ hn=>?_⟩
 ·by_cases e:d=c
  ·subst e
   have:q=p:=by omega
   subst this;simp [Kg]
  ·have hqp:q≠p:=λ f=>by
    subst f
    rcases hr.reps d hd hdd with ⟨a,_⟩ | ⟨q', a1,a2,a3⟩
    ·omega
    ·have:q' = q:=by omega
     subst this;rw [a3] at hcp;exact e hcp
   simp only [e,if_false];unfold Kg;rw [if_neg hqp];exact h1 q hq
 ·have e:d≠c:=λ f=>by subst f;omega
  simp only [e,if_false];exact h2 hn
def Zlb (ap:Bool) (J:List Int) (rep:Nat->Int) (cl:Nat->Nat) (lb:Nat) (w:World) (k:Int) (sz' : Nat->Int) (e:Ending) (w' : World):Prop:=e=.returned (.int .i64 (if k = -1 then -2 else k))∧∃ mz', Jd w' lb (J.length+200) mz' ∧ MZ ap J rep cl sz' mz' ∧ Zc (λ q=>q=lb) w w'
theorem Zps {L:List Sym} {ap:Bool} {B:NB} {T J:List Int} {up:Nat->Nat} {rep:Nat->Int} {cl ρ:Nat->Nat} {ld:Int->Int} (hT:Trs L J) (hl:Zcq J ld) (hJ:J.length<=4000) (hr:NR ap J up rep cl ρ ld) {lb lc:Nat} (hlb:B.top<=lb):∀ (n:Nat) (w:World) (mz sz:Nat->Int) (x:Nat) (k:Int) (sz' : Nat->Int),NC L B w T J up rep->Jd w lb (J.length+200) mz->MZ ap J rep cl sz mz->x<J.length->Zbd sz->Vy L J ld n sz x=some (k,sz') ->
  Calls Tryz.prog 178 #[.pointer (some ⟨B.nb,0,none⟩),.slice (some ⟨lb,0,none⟩) (J.length+200) lc,.int .i64 (x:Int)] w (Zlb ap J rep cl lb w k sz'):=by
 intro n
 induction n with
 | zero=>intro w mz sz x k sz' _ _ _ _ _ e;simp [Vy] at e
 | succ n ih=>
  intro w mz sz x k sz' hC hN hM hx hs e;have vx:Y2 ap J.length x:=.inl hx;have cX:=Zdu hC hr vx;have lx:=hr.led x vx;rw [V6 hx] at lx;have vc:=hr.cnode x vx;have hcc:=hr.idem x vx;have rx:=hr.reps _ vc hcc;obtain ⟨m1,m2⟩:=hM _ vc hcc;have hcl:=Zsd vc;obtain ⟨f1,f2⟩:=hN.cell hcl;have g1:=(hC.reps.cell hcl).1;obtain ⟨c1,c2,c3,c4⟩:=hC.cells;obtain ⟨C,hCC⟩:∃ C,cl x=C:=⟨_,rfl⟩;rw [hCC] at cX lx vc hcc rx m1 m2 hcl f1 f2 g1;have i1:(0:Int)<=(C:Int):=by omega
  have i2:(C:Int)<((J.length+200:Nat):Int):=by omega
  rw [Vy] at e
  by_cases hneg:rep C<0
  ·have hlx:ld x<0:=by
    rw [lx,if_pos hneg]
    rcases rx with ⟨_,a⟩ | ⟨p,a,_⟩
    ·exact Zdk a
    ·omega
   rw [if_pos hlx] at e;simp only [Option.some.injEq,Prod.mk.injEq] at e;obtain ⟨rfl,rfl⟩:=e
   have hr1:rep C = -1:=by
    rcases rx with ⟨a,_⟩ | ⟨p,a,_⟩
    ·exact a
    ·omega
   rw [hr1] at g1
   by_cases h0:mz C=0
   ·have hN' := hN.set C 1
    have hM' : MZ ap J rep cl sz (λ k=>if k=C then 1 else mz k):=by
     intro d hd hdd
     by_cases ed:d=C
     ·subst ed
      simp only [if_true];exact ⟨λ p hp=>by omega,λ _=>.inr trivial⟩
     ·simp only [ed,if_false];exact hM d hd hdd
    have kk:Zc (λ q=>q=lb) w (w.setCell ⟨lb,C,none⟩ (.int .i64 1)):=Zc.setCell (S:=λ q=>q=lb) (p:=⟨lb,C,none⟩) (Zc.refl _ _) (λ _=>rfl) _;rw [h0] at f1;clear ih hM m1 m2 hC hN hr
    go_enter Tryz.func178,Tryz.ntmps178
    go_wp2_with (first | (go_at_call 185;refine cX.mono ?_;rintro e w' ⟨rfl,hw'⟩;obtain rfl:w=w' := hw'.symm))
    go_returns
    exact ⟨rfl,_,hN', hM', kk⟩
   ·have h1:mz C=1:=(m2 hneg).resolve_left h0
    rw [h1] at f1;clear ih m1 m2 hC hr h0 h1
    go_enter Tryz.func178,Tryz.ntmps178
    go_wp2_with (first | (go_at_call 185;refine cX.mono ?_;rintro e w' ⟨rfl,hw'⟩;obtain rfl:w=w' := hw'.symm))
    go_returns
    exact ⟨rfl,_,hN,hM,Zc.refl _ _⟩
  ·obtain ⟨p,hp,hpl,hpc⟩:∃ p:Nat,rep C=p∧p<J.length∧cl p=C:=by
    rcases rx with ⟨a,_⟩ | a
    ·omega
    ·exact a
   rw [if_neg hneg,hp] at lx;rw [lx,if_neg (by omega),Int.toNat_natCast] at e;have hmz:=m1 p hp;rw [hmz] at f1;rw [hp] at g1
   by_cases h2:sz p≠0
   ·rw [if_pos h2] at e
    simp only [Option.some.injEq,Prod.mk.injEq] at e;obtain ⟨rfl,rfl⟩:=e;have h3:=hs p;obtain ⟨v,hv⟩:∃ v,sz p=v:=⟨_,rfl⟩;rw [hv] at f1 h2 h3 ⊢;clear ih m1 m2 hC hr hmz
    by_cases h4:v = -1
    ·subst h4
     go_enter Tryz.func178,Tryz.ntmps178
     go_wp2_with (first | (go_at_call 185;refine cX.mono ?_;rintro e w' ⟨rfl,hw'⟩;obtain rfl:w=w' := hw'.symm))
     go_returns
     exact ⟨rfl,_,hN,hM,Zc.refl _ _⟩
    ·go_enter Tryz.func178,Tryz.ntmps178
     go_wp2_with (first | (go_at_call 185;refine cX.mono ?_;rintro e w' ⟨rfl,hw'⟩;obtain rfl:w=w' := hw'.symm))
     go_returns
     exact ⟨by rw [if_neg h4];rfl,_,hN,hM,Zc.refl _ _⟩
   ·rw [if_neg h2] at e
    have h0:sz p=0:=by simpa using h2
    rw [h0] at f1;cases h3:Zaz (Vy L J ld n) (Zm L J p) 1 (Kg sz p (-1)) with
    | none=>simp [h3] at e
    | some v=>
     obtain ⟨s,sz1⟩:=v;simp only [h3] at e;have HE:Hid ((if s = -1 then some (-1,sz1) else some (s,Kg sz1 p s))=some (k,sz')):=e;have H3:Hid (Zaz (Vy L J ld n) ((Zm L J p).drop 0) 1 (Kg sz p (-1))=some (s,sz1)):=h3;have hs2:Zbd (Kg sz p (-1)):=hs.upd _ (.inl rfl);have hkl:=Vw hT hpl
     have hAl:(Zm L J p).length<=4000:=by
      have h1:=Ji (Yh hT hpl);have h2:=(hT.lt hpl).2;rw [show (Zm L J p).length=_ from Zl _ _ _ _];omega
     have IH:Hid (∀ (w:World) (mz sz:Nat->Int) (x:Nat) (k:Int) (sz' : Nat->Int),NC L B w T J up rep->Jd w lb (J.length+200) mz->MZ ap J rep cl sz mz->x<J.length->Zbd sz->Vy L J ld n sz x=some (k,sz')->Calls Tryz.prog 178 #[.pointer (some ⟨B.nb,0,none⟩),.slice (some ⟨lb,0,none⟩) (J.length+200) lc,.int .i64 (x:Int)] w (Zlb ap J rep cl lb w k sz')):=ih;have hN2:=hN.set C (-1);have hM2:=hM.upd hr vc hcc hp (-1);have kk:Zc (λ q=>q=lb) w (w.setCell ⟨lb,C,none⟩ (.int .i64 (-1))):=Zc.setCell (S:=λ q=>q=lb) (p:=⟨lb,C,none⟩) (Zc.refl _ _) (λ _=>rfl) _;have hC2:=hC.kept kk (λ q hq e=>by omega);have i3:(0:Int)<=(p:Int):=by omega
     have i4:(p:Int)<(J.length:Int):=by omega
     have HM:Hid (∀ sz mz,MZ ap J rep cl sz mz->∀ v,MZ ap J rep cl (Kg sz p v) (λ k=>if k=C then v else mz k)):=λ sz mz h v=>h.upd hr vc hcc hp v;clear ih hC e h3 h2 hM hN m1 m2 hr hmz rx
     go_enter Tryz.func178,Tryz.ntmps178
     go_upto_region 10 with (first | (go_at_call 185;refine cX.mono ?_;rintro e w' ⟨rfl,hw'⟩;obtain rfl:w=w' := hw'.symm))
     obtain ⟨w2,hw2⟩:∃ w2,w.setCell ⟨lb,C,none⟩ (.int .i64 (-1))=w2:=⟨_,rfl⟩;rw [hw2] at hN2 kk hC2 ⊢;clear hw2 c1 c2 c3 c4 f1 f2 g1 cX;obtain ⟨c1,c2,c3,c4⟩:=hC2.cells;have g1:=(hC2.reps.cell hcl).1;rw [hp] at g1;obtain ⟨go,gc,a1,a2,a3⟩:=hC2.args p hpl;have HA:Hid (∀ w', Zc (λ q=>q=lb) w2 w' -> Zh w' go ((Zm L J p).map (λ k:Nat=>(k:Int)))):=λ w' hk=>a2.kept hk (λ a e f=>by have:=(a3 a e).2;omega)
     go_upto_region 11 with fail
     go_quiet (fail);have KQ:Za w2 (w2.drewN nq):=(Zc.refl _ _).drewN nq;have hN3:=hN2.kept KQ (λ f=>f);have hC3:=hC2.same KQ;have kk3:Zc (λ q=>q=lb) w (w2.drewN nq):=kk.drewN nq;have kk4:Zc (λ q=>q=lb) w2 (w2.drewN nq):=(Zc.refl _ _).drewN nq;obtain ⟨w3,hw3⟩:∃ w3,w2.drewN nq=w3:=⟨_,rfl⟩;rw [hw3] at hN3 hC3 kk3 kk4 ⊢;clear hw3 hN2 hC2 kk KQ c1 c2 c3 c4 g1 a1 a2 a3
     go_wp2_with fail
     go_loopw [8,10] (λ s8 s10 wr=>∃ (sum:Int) (j:Nat) (sq mq:Nat->Int),s8=.int .i64 sum∧s10=.int .i64 (j:Int)∧1<=sum∧sum<=2001∧j<=(Zm L J p).length∧Zbd sq∧Jd wr lb (J.length+200) mq∧MZ ap J rep cl sq mq∧NC L B wr T J up rep∧Zc (λ q=>q=lb) w wr∧Zc (λ q=>q=lb) w2 wr∧Hid (Zaz (Vy L J ld n) ((Zm L J p).drop j) sum sq=some (s,sz1))) (λ _ s10 _=>(Zm L J p).length-(intOf s10).toNat)
     case atStart=>exact ⟨1,0,_,_,rfl,rfl,by omega,by omega,Nat.zero_le _,hs2,hN3,hM2,hC3,kk3,kk4,H3⟩
     case round=>
      clear hN3 hM2 hC3 kk3 kk4 H3 hs2;obtain ⟨sum,j,sq,mq,rfl,rfl,hs1,hs2,hj,hsq,hN,hM,hC,hK,hK2,HS⟩:=hrel
      by_cases hjl:j<(Zm L J p).length
      ·have hd:(Zm L J p).drop j=(Zm L J p)[j] :: (Zm L J p).drop (j+1):=List.drop_eq_getElem_cons hjl
       have hst:=HS.out;rw [hd,Zaz] at hst;obtain ⟨t,ht⟩:∃ t,(Zm L J p)[j]=t:=⟨_,rfl⟩;have htl:t<J.length:=by rw [<- ht];exact hkl _ (List.getElem_mem _)
       rw [ht] at hst;obtain ⟨gb,off,rfl,b1,b2⟩:=(HA.out wr hK2).get (i:=j) (by simpa using hjl);have b3:wr.cell? ⟨gb,off+j,none⟩=some (.int .i64 (t:Int)):=by rw [b2];simp [ht]
       have z1:(0:Int)<=(j:Int):=by omega
       have z2:(j:Int)<((Zm L J p).length:Int):=by omega
       have z3:(j:Int)<4000:=by omega
       cases hq:Vy L J ld n sq (t:Int) with
       | none=>simp [hq] at hst
       | some v=>
        obtain ⟨k1,sq1⟩:=v;simp only [hq] at hst;have cS:=IH.out wr mq sq t k1 sq1 hC hN hM htl hsq hq;obtain ⟨o1,o2⟩:=Za0 n _ _ _ _ hsq hq;have HST:Hid ((if k1 = -1 then some (-1,sq1) else Zaz (Vy L J ld n) ((Zm L J p).drop (j+1)) (min (sum+k1) 2001) sq1)=some (s,sz1)):=hst;have HC:Hid (∀ w', Zc (λ q=>q=lb) wr w' -> NC L B w' T J up rep):=λ w' hk=>hC.kept hk (λ q hq e=>by omega);clear hst hC HS hq hsq hd hM hN ht b2
        by_cases hk1:k1 = -1
        ·subst hk1
         have:=HST.out;rw [if_pos rfl] at this;simp only [Option.some.injEq,Prod.mk.injEq] at this;obtain ⟨rfl,rfl⟩:=this;have:=HE.out;rw [if_pos rfl] at this;simp only [Option.some.injEq,Prod.mk.injEq] at this;obtain ⟨rfl,rfl⟩:=this;have cS1:Calls Tryz.prog 178 #[.pointer (some ⟨B.nb,0,none⟩),.slice (some ⟨lb,0,none⟩) (J.length+200) lc,.int .i64 (t:Int)] wr λ e w' => e=.returned (.int .i64 (-2))∧∃ mz', Jd w' lb (J.length+200) mz' ∧ MZ ap J rep cl sq1 mz' ∧ Zc (λ q=>q=lb) wr w' := cS.mono (λ e w' ⟨a1,a2⟩=>⟨by rw [a1];rfl,a2⟩)
         clear HE HST IH HA cS
         go_wp2_with (first | (go_at_call 178;refine cS1.mono ?_;rintro e w5 ⟨rfl,mz5,q1,q2,q3⟩))
         go_returns
         exact ⟨rfl,mz5,q1,q2,hK.trans q3 (λ _ _ f=>f)⟩
        ·have:=HST.out
         rw [if_neg hk1] at this;have HST2:Hid (Zaz (Vy L J ld n) ((Zm L J p).drop (j+1)) (min (sum+k1) 2001) sq1=some (s,sz1)):=this;have i7:1<=k1:=by omega
         have i8:k1<=2001:=by omega
         have i9:¬ k1 = -2:=by omega
         have cS2:Calls Tryz.prog 178 #[.pointer (some ⟨B.nb,0,none⟩),.slice (some ⟨lb,0,none⟩) (J.length+200) lc,.int .i64 (t:Int)] wr λ e w' => e=.returned (.int .i64 k1)∧∃ mz', Jd w' lb (J.length+200) mz' ∧ MZ ap J rep cl sq1 mz' ∧ Zc (λ q=>q=lb) wr w' := cS.mono (λ e w' ⟨a1,a2⟩=>⟨by rw [a1,if_neg hk1],a2⟩)
         clear HST this o2 HE IH cS HA
         by_cases hm:2000<sum+k1
         ·rw [show min (sum+k1) 2001=2001 by omega] at HST2
          go_wp2_with (first | (go_at_call 178;refine cS2.mono ?_;rintro e w5 ⟨rfl,mz5,q1,q2,q3⟩))
          go_roundw
          case rel=>exact ⟨2001,j+1,sq1,mz5,by go_num,by go_num,by omega,by omega,by omega,o1,q1,q2,HC.out _ q3,hK.trans q3 (λ _ _ f=>f),hK2.trans q3 (λ _ _ f=>f),HST2⟩
          case measure=>simp [intOf];omega
         ·rw [show min (sum+k1) 2001=sum+k1 by omega] at HST2
          go_wp2_with (first | (go_at_call 178;refine cS2.mono ?_;rintro e w5 ⟨rfl,mz5,q1,q2,q3⟩))
          go_roundw
          case rel=>exact ⟨sum+k1,j+1,sq1,mz5,by go_num,by go_num,by omega,by omega,by omega,o1,q1,q2,HC.out _ q3,hK.trans q3 (λ _ _ f=>f),hK2.trans q3 (λ _ _ f=>f),HST2⟩
          case measure=>simp [intOf];omega
      ·have hje:j=(Zm L J p).length:=by omega
       have z2:¬ (j:Int)<((Zm L J p).length:Int):=by omega
       have hss:sum=s∧sq=sz1:=by
        have:=HS.out;rw [hje,List.drop_length] at this
        simpa [Zaz] using this
       obtain ⟨rfl,rfl⟩:=hss;have hne:¬ sum = -1:=by omega
       have:=HE.out;rw [if_neg hne] at this;simp only [Option.some.injEq,Prod.mk.injEq] at this;obtain ⟨rfl,rfl⟩:=this;obtain ⟨y1,y2⟩:=hN.cell hcl;have hN9:=hN.set C sum;have hM9:=HM.out _ _ hM sum;have k9:Zc (λ q=>q=lb) wr (wr.setCell ⟨lb,C,none⟩ (.int .i64 sum)):=Zc.setCell (S:=λ q=>q=lb) (p:=⟨lb,C,none⟩) (Zc.refl _ _) (λ _=>rfl) _;have fin:Zlb ap J rep cl lb w sum (Kg sq p sum) (.returned (.int .i64 sum)) (wr.setCell ⟨lb,C,none⟩ (.int .i64 sum)):=⟨by rw [if_neg hne],_,hN9,hM9,hK.trans k9 (λ _ _ f=>f)⟩;clear hN hM hC HS HE HM hN9 hM9 k9 hje HA IH
       go_wp2_with fail
       go_returns
       exact fin
theorem Xd {base:Nat} {w:World} {v:Value} {xs:List Int} (h:Row base w v xs) {q:Nat} (e:v.ownBlock=some q):base<=q:=(World.ownsRow.lt h q e).1
end
theorem Zs2 {L:List Sym} {a c:List Int} {p n:Nat} (h:V0 L 1 (a.drop p)=some n) (hp:p<=a.length):Zq L (a++c) p=Zq L a p:=by
 rw [Y9 h];refine Y9 (n:=n) ?_;rw [List.drop_append_of_le_length hp];exact Zd9 h c
theorem Zdf {L:List Sym} {a c:List Int}:∀ (k p q:Nat),Zu L a k p q->Zr L (a++c) k p=Zr L a k p
 | 0,p,q,h=>rfl
 | k+1,p,q,h=>by
  obtain ⟨h1,h2,h3⟩:=h.succ;obtain ⟨n,e1,e2,e3⟩:=h1;rw [Zr,Zr,Zs2 e1 (by omega),Zdf k _ q h3]
theorem Zpf {L:List Sym} {a c:List Int} {p n:Nat} (h:V0 L 1 (c.drop p)=some n):Zq L (a++c) (a.length+p)=a.length+Zq L c p:=by
 rw [Y9 h,<- Nat.add_assoc];refine Y9 (n:=n) ?_;rw [List.drop_append,List.drop_eq_nil_of_le (by omega),List.nil_append,Nat.add_sub_cancel_left];exact h
theorem Zcm {L:List Sym} {a c:List Int}:∀ (k p q:Nat),Zu L c k p q->Zr L (a++c) k (a.length+p)=(Zr L c k p).map (λ x=>a.length+x)
 | 0,p,q,h=>rfl
 | k+1,p,q,h=>by
  obtain ⟨h1,h2,h3⟩:=h.succ;obtain ⟨n,e1,e2,e3⟩:=h1;rw [Zr,Zr,Zpf e1,Zcm k _ q h3];rfl
theorem Zj1 (L:List Sym) {ap:Int} (h:0<=ap):∀ (k:Nat) (b:List Int),V0 L k (b.map (shF ap))=V0 L k b
 | 0,b=>by rw [Ve,Ve]
 | k+1,[]=>rfl
 | k+1,x :: r=>by rw [List.map_cons,V0,V0,Zok L h,Zj1 L h]
theorem Zq5 (f:Int->Int) (p:Nat) (b:List Int):(b.map f).drop p=(b.drop p).map f:=by simp
theorem end_sh (L:List Sym) {ap:Int} (h:0<=ap) (b:List Int) (p:Nat):Zq L (b.map (shF ap)) p=Zq L b p:=by
 unfold Zq Zjc;rw [Zq5,Zj1 L h,List.length_map]
theorem Zip (L:List Sym) {ap:Int} (h:0<=ap) (b:List Int):∀ (k p:Nat),Zr L (b.map (shF ap)) k p=Zr L b k p
 | 0,p=>rfl
 | k+1,p=>by rw [Zr,Zr,end_sh L h,Zip L h b]
theorem kids_a {L:List Sym} {a b:List Int} {ap:Int} (h0:0<=ap) (ha:IsT L a) {i:Nat} (hi:i<a.length):Zm L (jl a b ap) i=Zz L a i:=by
 rw [Ya hi];unfold Zm
 have e:at' (jl a b ap) (i:Nat)=a[i]:=by
  rw [Yl _ _ (by simp [jl];omega)];unfold jl;rw [List.getElem_append_left hi]
 rw [e];unfold jl;exact Zdf _ _ _ (Zu.one ha hi).kids.2
theorem kids_b {L:List Sym} {a b:List Int} {ap:Int} (h0:0<=ap) (hb:IsT L b) {i:Nat} (hi:i<b.length):Zm L (jl a b ap) (a.length+i)=(Zz L b i).map (λ x=>a.length+x):=by
 rw [Ya hi];unfold Zm
 have e:at' (jl a b ap) ((a.length+i:Nat):Int)=shF ap b[i]:=by
  rw [Yl _ _ (by simp [jl];omega)];unfold jl;rw [List.getElem_append_right (by omega),List.getElem_map];congr 2;omega
 rw [e,Zok L h0];unfold jl;have hf:=(Zu.one hb hi).kids.2
 have hf' : Zu L (b.map (shF ap)) (arN L b[i]) (i+1) (Zq L b i):=by
  obtain ⟨n,e1,e2,e3⟩:=hf;exact ⟨n,by rw [Zq5,Zj1 L h0];exact e1,e2,by rw [List.length_map];exact e3⟩
 rw [Nat.add_assoc,Zcm _ _ _ hf', Zip L h0]
def Zoc (ap:Bool) (N which:Nat) (n:Int):Nat:=if ap=true then N+2 * (-n-1).toNat+which else N+2 * (-n-1).toNat
def up0 (ap:Bool) (N la:Nat) (T:List Int) (i:Nat):Nat:=if i<N∧at' T i<0 then Zoc ap N (if la<=i then 1 else 0) (at' T i) else i
def Ze7 (N:Nat) (T:List Int) (i:Nat):Int:=if i<N∧0<=at' T i then (i:Int) else -1
def apI (ap:Bool):Int:=if ap=true then 99 else 0
theorem at_jl {a b:List Int} {ap:Bool} {i:Nat} (hi:i<a.length+b.length):at' (jl a b (apI ap)) (i:Nat)=if at' (a++b) i<0∧a.length<=i then at' (a++b) i-apI ap else at' (a++b) i:=by
 rw [Yl _ _ (by simp [jl];omega),Yl _ _ (by simp;omega)];unfold jl
 by_cases h:i<a.length
 ·rw [List.getElem_append_left h,List.getElem_append_left h,if_neg (by omega)]
 ·rw [List.getElem_append_right (by omega),List.getElem_append_right (by omega),List.getElem_map]
  unfold shF
  by_cases q:b[i-a.length]'(by omega)<0
  ·rw [if_pos q,if_pos ⟨q,by omega⟩]
  ·rw [if_neg q,if_neg (λ f=>q f.1)]
theorem Zwu {ap:Bool} {a b:List Int} (ha:∀ x∈a, -99<=x) (hb:∀ x∈b, -99<=x):∃ cl ρ,NR ap (jl a b (apI ap)) (up0 ap (a.length+b.length) a.length (a++b)) (Ze7 (a.length+b.length) (a++b)) cl ρ (ld0 (jl a b (apI ap))):=by
 obtain ⟨N,hN⟩:∃ N,a.length+b.length=N:=⟨_,rfl⟩;obtain ⟨J,hJ⟩:∃ J,jl a b (apI ap)=J:=⟨_,rfl⟩;obtain ⟨T,hT⟩:∃ T,a++b=T:=⟨_,rfl⟩;obtain ⟨la,hla⟩:∃ la,a.length=la:=⟨_,rfl⟩;have hJl:J.length=N:=by rw [<- hJ,<- hN];simp [jl]
 have hlow:∀ i,i<N -> -99<=at' T i:=by
  intro i hi;rw [<- hT,Yl _ _ (by simp;omega)];have:=List.getElem_mem (l:=a++b) (n:=i) (by simp;omega)
  rcases List.mem_append.1 this with e | e
  ·exact ha _ e
  ·exact hb _ e
 have hat:∀ i:Nat,i<N->at' J i=if at' T i<0∧la<=i then at' T i-apI ap else at' T i:=by
  intro i hi;rw [<- hJ,<- hT,<- hla];exact at_jl (by omega)
 rw [hN,hJ,hT,hla];obtain ⟨u,hu⟩:∃ u,up0 ap N la T=u:=⟨_,rfl⟩;have u1:∀ i,i<N->at' T i<0->u i=Zoc ap N (if la<=i then 1 else 0) (at' T i):=λ i h1 h2=>by rw [<- hu];unfold up0;rw [if_pos ⟨h1,h2⟩]
 have u2:∀ i,¬ (i<N∧at' T i<0)->u i=i:=λ i h=>by rw [<- hu];unfold up0;rw [if_neg h]
 have vn:∀ i,i<N->at' T i<0->Y2 ap N (u i)∧N<=u i∧ptN ap N (u i)=at' J i:=by
  intro i h1 h2;rw [u1 i h1 h2,hat i h1];have hl:=hlow i h1;obtain ⟨n,hn⟩:∃ n:Nat,at' T i = -(n:Int)-1:=⟨(-at' T i-1).toNat,by omega⟩;rw [hn];have e0:(-(-(n:Int)-1)-1).toNat=n:=by omega
  unfold Zoc Y2 ptN apI;rw [e0];cases ap
  ·simp only [Bool.false_eq_true,if_false,false_or,false_and]
   refine ⟨.inr ⟨by omega,by omega,by omega⟩,by omega,?_⟩;rw [if_neg (by omega),show N+2 * n-N=2 * n by omega,show 2 * n / 2=n by omega];split <;> omega
  ·simp only [if_true,true_or,and_true,true_and]
   by_cases hi:la<=i
   ·rw [if_pos hi]
    refine ⟨.inr ⟨by omega,by omega⟩,by omega,?_⟩;rw [if_neg (by omega),show N+2 * n+1-N=2 * n+1 by omega,if_pos (by omega),show (2 * n+1) / 2=n by omega,if_pos ⟨by omega,hi⟩];omega
   ·rw [if_neg hi]
    refine ⟨.inr ⟨by omega,by omega⟩,by omega,?_⟩;rw [if_neg (by omega),show N+2 * n+0-N=2 * n by omega,if_neg (by omega),show 2 * n / 2=n by omega,if_neg (λ f=>hi f.2)]
 have uu:∀ i,Y2 ap N i->u (u i)=u i:=by
  intro i hi
  by_cases h:i<N∧at' T i<0
  ·have:=(vn i h.1 h.2).2.1
   exact u2 _ (by omega)
  ·rw [u2 i h,u2 i h]
 rw [hu];refine ⟨u,λ x=>if x<N then 1 else 0,?_⟩;have hV:∀ x,Y2 ap J.length x ↔ Y2 ap N x:=λ x=>by rw [hJl]
 refine ⟨?_,?_,?_,?_,?_,?_,?_,?_⟩
 ·intro x hx
  rw [hV] at hx ⊢
  by_cases h:x<N∧at' T x<0
  ·exact (vn x h.1 h.2).1
  ·rw [u2 x h];exact hx
 ·intro x hx
  rw [hV] at hx ⊢
  by_cases h:x<N∧at' T x<0
  ·exact (vn x h.1 h.2).1
  ·rw [u2 x h];exact hx
 ·intro x hx;exact uu x ((hV x).1 hx)
 ·intro x hx;exact uu x ((hV x).1 hx)
 ·intro x hx;exact Iff.rfl
 ·intro x hx hn
  by_cases h:x<N∧at' T x<0
  ·have:=(vn x h.1 h.2).2.1
   rw [if_neg (by omega),if_pos h.1];omega
  ·exact absurd (u2 x h) hn
 ·intro c hc hcc
  rw [hV] at hc
  by_cases h:c<N
  ·by_cases q:at' T c<0
   ·have:=(vn c h q).2.1;omega
   ·right
    refine ⟨c,?_,by omega,hcc⟩;unfold Ze7;rw [if_pos ⟨h,by omega⟩]
  ·left
   refine ⟨?_,by omega⟩;unfold Ze7;rw [if_neg (λ f=>h f.1)]
 ·intro x hx
  rw [hV] at hx;rw [hJl]
  by_cases h:x<N
  ·rw [V6 h]
   by_cases q:at' T x<0
   ·obtain ⟨v1,v2,v3⟩:=vn x h q
    have e1:Ze7 N T (u x) = -1:=by unfold Ze7;rw [if_neg (λ f=>by omega)]
    rw [e1,if_pos (by omega),v3];have hneg:at' J x<0:=by rw [<- v3];exact Zdk v2
    unfold ld0;rw [if_pos ⟨by omega,hneg⟩]
   ·have e0:=u2 x (λ f=>q f.2)
    have e1:Ze7 N T x=x:=by unfold Ze7;rw [if_pos ⟨h,by omega⟩]
    rw [e0,e1,if_neg (by omega)];have hpos:¬ at' J x<0:=by rw [hat x h,if_neg (λ f=>q f.1)];exact q
    unfold ld0;rw [if_neg (λ f=>hpos f.2)]
  ·have e0:=u2 x (λ f=>h f.1)
   have e1:Ze7 N T x = -1:=by unfold Ze7;rw [if_neg (λ f=>h f.1)]
   rw [e0,e1,if_pos (by omega)];have:=Zdk (ap:=ap) (N:=N) (x:=x) (by omega);unfold ld0;rw [if_neg (by omega)]
section
open Go.RowKit
structure Fam (b2:Nat) (w:World) (vs:Nat->Value) (xs:Nat->List Int) (va:Value) (AA:List (List Int)):Prop where
 rows:∀ i,i<3->Row b2 w (vs i) (xs i)
 ap:∀ i j,i<3->j<3->i≠j->∀ q,(vs i).ownBlock=some q->(vs j).ownBlock≠some q
 apa:∀ i,i<3->∀ q,(vs i).ownBlock=some q->va.ownBlock≠some q
 ar:∃ cs,w.ownsRow b2 32 1 va AA.length cs∧∀ j (h:j<AA.length),∃ v,cs[j]? = some v∧Row b2 w v AA[j]∧∀ q,v.ownBlock=some q->va.ownBlock≠some q∧∀ i,i<3->(vs i).ownBlock≠some q
theorem Fam.keep {b2:Nat} {S:Nat->Prop} {w w' : World} {vs:Nat->Value} {xs:Nat->List Int} {va:Value} {AA:List (List Int)} (h:Fam b2 w vs xs va AA) (hk:Zc S w w') (hs:∀ k,b2<=k->¬ S k):Fam b2 w' vs xs va AA:=by
 refine ⟨λ i hi=>hk.row (h.rows i hi) (λ q e=>hs q (Xd (h.rows i hi) e)),h.ap,h.apa,?_⟩;obtain ⟨cs,h1,h2⟩:=h.ar;refine ⟨cs,hk.row h1 (λ q e=>hs q (World.ownsRow.lt h1 q e).1),λ j hj=>?_⟩;obtain ⟨v,a1,a2,a3⟩:=h2 j hj;exact ⟨v,a1,hk.row a2 (λ q e=>hs q (Xd a2 e)),a3⟩
theorem Fam.same {b2:Nat} {w w' : World} {vs:Nat->Value} {xs:Nat->List Int} {va:Value} {AA:List (List Int)} (h:Fam b2 w vs xs va AA) (hk:Za w w'):Fam b2 w' vs xs va AA:=h.keep hk (λ _ _ f=>f)
theorem Fam.push {b2:Nat} {w w1 w9:World} {vs:Nat->Value} {xs:Nat->List Int} {va:Value} {AA:List (List Int)} (h:Fam b2 w vs xs va AA) {i:Nat} (hi:i<3) {gg cap' l:Nat} {z:Int} (hl:(xs i).length=l) (hk:Za w w1) (hown:w9.ownsRow b2 3 1 (.slice (some ⟨gg,0,none⟩) (l+1) cap') (l+1) (iv (xs i) ++ [.int .i64 z])) (hgrow:w1.grownBy w9 (vs i).ownBlock) (hat:(vs i).ownBlock=some gg∨w.heap.size<=gg) {xs' : Nat->List Int} (e1:xs' i=xs i ++ [z]) (e2:∀ j,j<3->j≠i->xs' j=xs j) :
  Fam b2 w9 (λ j=>if j=i then .slice (some ⟨gg,0,none⟩) (l+1) cap' else vs j) xs' va AA∧Zc (λ q=>b2<=q) w w9:=by
 have kg:Zc (λ q=>(vs i).ownBlock=some q) w w9:=Zc.grown (Zc.mono hk (λ _ _ f=>f.elim)) hgrow (λ q e _=>e)
 have fresh:∀ (v:Value) (q:Nat),v.ownBlock=some q->q<w.heap.size->(vs i).ownBlock≠some q->q≠gg:=by
  intro v q _ h1 h2 e;subst e
  rcases hat with f | f
  ·exact h2 f
  ·omega
 obtain ⟨cs,a1,a2⟩:=h.ar;refine ⟨⟨?_,?_,?_,cs,kg.row a1 (λ q e f=>h.apa i hi q f e),λ j hj=>?_⟩,kg.mono (λ q _ e=>Xd (h.rows i hi) e)⟩
 ·intro j hj
  by_cases ej:j=i
  ·subst ej
   simp only [if_true];rw [e1];have:(xs j ++ [z]).length=l+1:=by simp [hl]
   show w9.ownsRow b2 3 1 _ (xs j ++ [z]).length _;rw [this,Vd];exact hown
  ·simp only [ej,if_false]
   rw [e2 j hj ej];exact kg.row (h.rows j hj) (λ q e f=>h.ap j i hj hi ej q e f)
 ·intro j k hj hkk hjk q e f
  by_cases ej:j=i
  ·subst ej
   simp only [if_true] at e;have ek:k≠j:=λ g=>hjk g.symm;simp only [ek,if_false] at f;simp only [Value.ownBlock,Option.some.injEq] at e;subst e;exact fresh (vs k) gg f (World.ownsRow.lt (h.rows k hkk) gg f).2 (λ g=>h.ap k j hkk hj ek gg f g) rfl
  ·simp only [ej,if_false] at e
   by_cases ek:k=i
   ·subst ek
    simp only [if_true,Value.ownBlock,Option.some.injEq] at f;subst f;exact fresh (vs j) gg e (World.ownsRow.lt (h.rows j hj) gg e).2 (λ g=>h.ap j k hj hkk hjk gg e g) rfl
   ·simp only [ek,if_false] at f
    exact h.ap j k hj hkk hjk q e f
 ·intro j hj q e f
  by_cases ej:j=i
  ·subst ej
   simp only [if_true,Value.ownBlock,Option.some.injEq] at e;subst e;exact fresh va gg f (World.ownsRow.lt a1 gg f).2 (λ g=>h.apa j hj gg g f) rfl
  ·simp only [ej,if_false] at e
   exact h.apa j hj q e f
 ·obtain ⟨v,b1,b2', b3⟩:=a2 j hj
  refine ⟨v,b1,kg.row b2' (λ q e f=>(b3 q e).2 i hi f),λ q e=>⟨(b3 q e).1,λ k hkk f=>?_⟩⟩
  by_cases ek:k=i
  ·subst ek
   simp only [if_true,Value.ownBlock,Option.some.injEq] at f;subst f;exact fresh v gg e (World.ownsRow.lt b2' gg e).2 (λ g=>(b3 gg e).2 k hi g) rfl
  ·simp only [ek,if_false] at f
   exact (b3 q e).2 k hkk f
theorem Fam.more {b2:Nat} {w w1 w9:World} {vs:Nat->Value} {xs:Nat->List Int} {va:Value} {AA:List (List Int)} {cs0:List Value} (h:Fam b2 w vs xs va AA) {gg cap' : Nat} {v:Value} {ys:List Int} (hv:Row b2 w v ys) (hva:∀ q,v.ownBlock=some q->va.ownBlock≠some q∧∀ i,i<3->(vs i).ownBlock≠some q) (hcs:w.ownsRow b2 32 1 va AA.length cs0) (hk:Za w w1) (hown:w9.ownsRow b2 32 1 (.slice (some ⟨gg,0,none⟩) (AA.length+1) cap') (AA.length+1) (cs0 ++ [v])) (hgrow:w1.grownBy w9 va.ownBlock) (hat:va.ownBlock=some gg∨w.heap.size<=gg) :
  Fam b2 w9 vs xs (.slice (some ⟨gg,0,none⟩) (AA.length+1) cap') (AA ++ [ys])∧Zc (λ q=>b2<=q) w w9:=by
 have kg:Zc (λ q=>va.ownBlock=some q) w w9:=Zc.grown (Zc.mono hk (λ _ _ f=>f.elim)) hgrow (λ q e _=>e)
 have fresh:∀ (q:Nat),q<w.heap.size->va.ownBlock≠some q->q≠gg:=by
  intro q h1 h2 e;subst e
  rcases hat with f | f
  ·exact h2 f
  ·omega
 obtain ⟨cs,a1,a2⟩:=h.ar
 have hcc:cs=cs0:=by
  have l1:=a1.1;have l2:=hcs.1;refine List.ext_getElem? (λ i=>?_)
  by_cases hi:i<AA.length
  ·rcases a1.2 with ⟨e,_⟩ | ⟨g,cap,cur,hv', _⟩
   ·have:=a1.2
    rcases hcs.2 with ⟨_,e0⟩ | ⟨g,cap,cur,hv', _⟩
    ·omega
    ·rw [e] at hv'; cases hv'
   ·have c1:=World.ownsRow.cellAt (g:=g) (cap:=cap) (hv' ▸ a1) i (by omega)
    have c2:=World.ownsRow.cellAt (g:=g) (cap:=cap) (hv' ▸ hcs) i (by omega);rw [<- c1,<- c2]
  ·rw [List.getElem?_eq_none (by omega),List.getElem?_eq_none (by omega)]
 subst hcc;have lcs:cs.length=AA.length:=by have:=a1.1;omega
 refine ⟨⟨λ i hi=>kg.row (h.rows i hi) (λ q e f=>h.apa i hi q e f),h.ap,λ i hi q e f=>?_,cs ++ [v],by simpa using hown,λ j hj=>?_⟩,kg.mono (λ q _ e=>(World.ownsRow.lt a1 q e).1)⟩
 ·simp only [Value.ownBlock,Option.some.injEq] at f
  subst f;exact fresh gg (World.ownsRow.lt (h.rows i hi) gg e).2 (h.apa i hi gg e) rfl
 ·by_cases e:j=AA.length
  ·subst e
   refine ⟨v,by rw [List.getElem?_append_right (by omega),lcs];simp,?_,λ q e=>⟨λ f=>?_,(hva q e).2⟩⟩
   ·have e3:(AA ++ [ys])[AA.length]'hj=ys:=by simp
    rw [e3];exact kg.row hv (λ q e f=>(hva q e).1 f)
   ·simp only [Value.ownBlock,Option.some.injEq] at f
    subst f;exact fresh gg (World.ownsRow.lt hv gg e).2 (hva gg e).1 rfl
  ·have hj' : j<AA.length:=by simp at hj;omega
   obtain ⟨u,b1,b2', b3⟩:=a2 j hj';refine ⟨u,by rw [List.getElem?_append_left (by omega)];exact b1,?_,λ q e=>⟨λ f=>?_,(b3 q e).2⟩⟩
   ·rw [List.getElem_append_left hj']
    exact kg.row b2' (λ q e f=>(b3 q e).1 f)
   ·simp only [Value.ownBlock,Option.some.injEq] at f
    subst f;exact fresh gg (World.ownsRow.lt b2' gg e).2 (b3 gg e).1 rfl
end
section
open Go.RowKit
attribute [local go_sem ↓] Go.wp_at_zero Go.wp_at_succ
structure TwoR (w0 w:World) (vo vt:Value) (O W:List Int):Prop where
 o:Row w0.heap.size w vo O
 t:Row w0.heap.size w vt W
 ap:∀ q,vo.ownBlock=some q->vt.ownBlock≠some q
 kept:Za w0 w
def tri (a b c:List Int):Nat->List Int:=λ i=>if i=0 then a else if i=1 then b else c
theorem Zj2 {T U U' R:List Int}:∀ j,j<3->j≠1->tri T U' R j=tri T U R j:=λ j _ e=>by unfold tri;rw [if_neg e,if_neg e]
theorem Zjz {T U R R' : List Int}:∀ j,j<3->j≠2->tri T U R' j=tri T U R j:=by
 intro j h e;unfold tri
 by_cases e0:j=0
 ·rw [if_pos e0,if_pos e0]
 ·rw [if_neg e0,if_neg e0]
  by_cases e1:j=1
  ·rw [if_pos e1,if_pos e1]
  ·omega
structure LS (w0 w:World) (rv sa sb:Value) (vs:Nat->Value) (va:Value) (xs:Nat->List Int) (AA:List (List Int)):Prop where
 fam:Fam (w0.heap.size+2) w vs xs va AA
 blk:w.heap[w0.heap.size]? = some (.cells #[rv,vs 0,va,vs 1,vs 2] 275 (0,0))
 two:w.heap[w0.heap.size+1]? = some (.cells #[sa,sb] 64 (0,0))
 kept:Za w0 w
 big:w0.heap.size+2<=w.heap.size
theorem LS.same {w0 w w' : World} {rv sa sb:Value} {vs:Nat->Value} {va:Value} {xs:Nat->List Int} {AA:List (List Int)} (h:LS w0 w rv sa sb vs va xs AA) (hk:Za w w'):LS w0 w' rv sa sb vs va xs AA:=
 ⟨h.fam.same hk,hk.at0 h.blk,hk.at0 h.two,h.kept.trans' hk,Nat.le_trans h.big hk.size⟩
theorem LS.store {w0 w w9:World} {rv sa sb:Value} {vs vs' : Nat->Value} {va va' : Value} {xs xs' : Nat->List Int} {AA AA' : List (List Int)} (h:LS w0 w rv sa sb vs va xs AA) (hf:Fam (w0.heap.size+2) w9 vs' xs' va' AA') (hk:Zc (λ q=>w0.heap.size+2<=q) w w9) {s:Nat} {v:Value} (hs:(#[rv,vs 0,va,vs 1,vs 2]:Array Value).setIfInBounds s v = #[rv,vs' 0,va', vs' 1,vs' 2]):LS w0 (w9.setCell ⟨w0.heap.size,s,none⟩ v) rv sa sb vs' va' xs' AA' ∧ w9.heap[w0.heap.size]? = some (.cells #[rv,vs 0,va,vs 1,vs 2] 275 (0,0)):=by
 have b1:=hk.at h.blk (by omega);have b2:=hk.at h.two (by omega);have k2:Zc (λ q=>q=w0.heap.size) w9 (w9.setCell ⟨w0.heap.size,s,none⟩ v):=Zc.setCell (S:=λ q=>q=w0.heap.size) (p:=⟨w0.heap.size,s,none⟩) (Zc.refl _ _) (λ _=>rfl) _;refine ⟨⟨hf.keep k2 (λ q hq e=>by omega),by rw [Zs b1,hs],k2.at b2 (by omega),(h.kept.trans hk (λ q hq f=>by omega)).trans k2 (λ q hq e=>by omega),?_⟩,b1⟩;have:=hk.size;have:=k2.size;have:=h.big;omega
theorem LS.cells {w0 w:World} {rv sa sb:Value} {vs:Nat->Value} {va:Value} {xs:Nat->List Int} {AA:List (List Int)} (h:LS w0 w rv sa sb vs va xs AA):w.cell? ⟨w0.heap.size,1,none⟩=some (vs 0)∧w.cell? ⟨w0.heap.size,2,none⟩=some va∧w.cell? ⟨w0.heap.size,3,none⟩=some (vs 1)∧w.cell? ⟨w0.heap.size,4,none⟩=some (vs 2)∧w.cell? ⟨w0.heap.size+1,0,none⟩=some sa∧w.cell? ⟨w0.heap.size+1,1,none⟩=some sb∧∀ s,w.frozen? ⟨w0.heap.size,s,none⟩=false:=
 ⟨Zb h.blk 1,Zb h.blk 2,Zb h.blk 3,Zb h.blk 4,Zb h.two 0,Zb h.two 1,λ s=>Zd h.blk s⟩
theorem LS.push {w0 w w1 w9:World} {rv sa sb:Value} {vs:Nat->Value} {va:Value} {xs xs' : Nat->List Int} {AA:List (List Int)} (h:LS w0 w rv sa sb vs va xs AA) {i s:Nat} (hi:i<3) (hs:s=if i=0 then 1 else i+2) {gg cap' l H:Nat} {z:Int} (hl:(xs i).length=l) (hk:Za w w1) (hown:w9.ownsRow (w0.heap.size+2) 3 1 (.slice (some ⟨gg,0,none⟩) (l+1) cap') (l+1) (iv (xs i) ++ [.int .i64 z])) (hgrow:w1.grownBy w9 (vs i).ownBlock) (hat:(vs i).ownBlock=some gg∨gg=H) (hH:w.heap.size<=H) (e1:xs' i=xs i ++ [z]) (e2:∀ j,j<3->j≠i->xs' j=xs j) :
  LS w0 (w9.setCell ⟨w0.heap.size,s,none⟩ (.slice (some ⟨gg,0,none⟩) (l+1) cap')) rv sa sb (λ j=>if j=i then .slice (some ⟨gg,0,none⟩) (l+1) cap' else vs j) va xs' AA∧w9.cell? ⟨w0.heap.size,s,none⟩=some (vs i)∧w9.frozen? ⟨w0.heap.size,s,none⟩=false:=by
 obtain ⟨f1,f2⟩:=h.fam.push hi hl hk hown hgrow (hat.imp id (λ e=>by omega)) e1 e2
 rcases (show i=0∨i=1∨i=2 by omega) with rfl | rfl | rfl
 ·obtain rfl:s=1:=by simpa using hs
  obtain ⟨g1,g2⟩:=h.store f1 f2 (s:=1) (v:=.slice (some ⟨gg,0,none⟩) (l+1) cap') (by simp);exact ⟨g1,Zb g2 1,Zd g2 1⟩
 ·obtain rfl:s=3:=by simpa using hs
  obtain ⟨g1,g2⟩:=h.store f1 f2 (s:=3) (v:=.slice (some ⟨gg,0,none⟩) (l+1) cap') (by simp);exact ⟨g1,Zb g2 3,Zd g2 3⟩
 ·obtain rfl:s=4:=by simpa using hs
  obtain ⟨g1,g2⟩:=h.store f1 f2 (s:=4) (v:=.slice (some ⟨gg,0,none⟩) (l+1) cap') (by simp);exact ⟨g1,Zb g2 4,Zd g2 4⟩
theorem LS.more {w0 w w1 w9:World} {rv sa sb:Value} {vs:Nat->Value} {va:Value} {xs:Nat->List Int} {AA:List (List Int)} {cs0:List Value} (h:LS w0 w rv sa sb vs va xs AA) {gg cap' l H:Nat} {v:Value} {ys:List Int} (hl:AA.length=l) (hv:Row (w0.heap.size+2) w v ys) (hva:∀ q,v.ownBlock=some q->va.ownBlock≠some q∧∀ i,i<3->(vs i).ownBlock≠some q) (hcs:w.ownsRow (w0.heap.size+2) 32 1 va l cs0) (hk:Za w w1) (hown:w9.ownsRow (w0.heap.size+2) 32 1 (.slice (some ⟨gg,0,none⟩) (l+1) cap') (l+1) (cs0 ++ [v])) (hgrow:w1.grownBy w9 va.ownBlock) (hat:va.ownBlock=some gg∨gg=H) (hH:w.heap.size<=H) :
  LS w0 (w9.setCell ⟨w0.heap.size,2,none⟩ (.slice (some ⟨gg,0,none⟩) (l+1) cap')) rv sa sb vs (.slice (some ⟨gg,0,none⟩) (l+1) cap') xs (AA ++ [ys])∧w9.cell? ⟨w0.heap.size,2,none⟩=some va∧w9.frozen? ⟨w0.heap.size,2,none⟩=false:=by
 subst hl;obtain ⟨f1,f2⟩:=h.fam.more hv hva hcs hk hown hgrow (hat.imp id (λ e=>by omega));obtain ⟨g1,g2⟩:=h.store f1 f2 (s:=2) (v:=.slice (some ⟨gg,0,none⟩) (AA.length+1) cap') (by simp);exact ⟨g1,Zb g2 2,Zd g2 2⟩
theorem LS.pe {w0 w:World} {rv sa sb:Value} {vs:Nat->Value} {va:Value} {xs xs' : Nat->List Int} {AA:List (List Int)} (h:LS w0 w rv sa sb vs va xs AA) {i s:Nat} (hi:i<3) (hs:s=if i=0 then 1 else i+2) {l:Nat} {z:Int} (hl:(xs i).length=l) (e1:xs' i=xs i ++ [z]) (e2:∀ j,j<3->j≠i->xs' j=xs j) :
  ∃ ro rc,vs i=.slice ro l rc∧w.ownsRow (w0.heap.size+2) 3 1 (.slice ro l rc) l (iv (xs i))∧w0.heap.size+2<=(w.alloc (.cells #[.int .i64 z] 3)).heap.size∧Hid (∀ gg cap' w9,w9.ownsRow (w0.heap.size+2) 3 1 (.slice (some ⟨gg,0,none⟩) (l+1) cap') (l+1) (iv (xs i) ++ [.int .i64 z])->(w.alloc (.cells #[.int .i64 z] 3)).grownBy w9 (Value.slice ro l rc).ownBlock->((Value.slice ro l rc).ownBlock=some gg∨gg=(w.alloc (.cells #[.int .i64 z] 3)).heap.size)->LS w0 (w9.setCell ⟨w0.heap.size,s,none⟩ (.slice (some ⟨gg,0,none⟩) (l+1) cap')) rv sa sb (λ j=>if j=i then .slice (some ⟨gg,0,none⟩) (l+1) cap' else vs j) va xs' AA∧w9.cell? ⟨w0.heap.size,s,none⟩=some (.slice ro l rc)∧w9.frozen? ⟨w0.heap.size,s,none⟩=false):=by
 have h0:w.ownsRow (w0.heap.size+2) 3 1 (vs i) l (iv (xs i)):=by
  have:=h.fam.rows i hi;unfold Row at this;rw [hl] at this;exact this
 obtain ⟨ro,rc,hv⟩:=Zf h0;have kd:Za w (w.alloc (.cells #[.int .i64 z] 3)):=Zc.alloc (Zc.refl _ w) _;refine ⟨ro,rc,hv,hv ▸ h0,by have:=kd.size;have:=h.big;omega,?_⟩;intro gg cap' w9 q1 q2 q3;rw [<- hv] at q2 q3 ⊢;exact h.push hi hs hl kd q1 q2 q3 kd.size e1 e2
theorem Fam.put {b2:Nat} {w:World} {vs:Nat->Value} {xs xs' : Nat->List Int} {va:Value} {AA:List (List Int)} (h:Fam b2 w vs xs va AA) {i:Nat} (hi:i<3) {g n cap k:Nat} {z:Int} (hv:vs i=.slice (some ⟨g,0,none⟩) n cap) (hl:(xs i).length=n) (e1:xs' i=(xs i).set k z) (e2:∀ j,j<3->j≠i->xs' j=xs j) :
  Fam b2 (w.setCell ⟨g,k,none⟩ (.int .i64 z)) vs xs' va AA∧Zc (λ q=>b2<=q) w (w.setCell ⟨g,k,none⟩ (.int .i64 z)):=by
 have kg:Zc (λ q=>q=g) w (w.setCell ⟨g,k,none⟩ (.int .i64 z)):=Zc.setCell (S:=λ q=>q=g) (p:=⟨g,k,none⟩) (Zc.refl _ _) (λ _=>rfl) _;have own:(vs i).ownBlock=some g:=by rw [hv];rfl
 have hbase:b2<=g:=Xd (h.rows i hi) own;obtain ⟨cs,a1,a2⟩:=h.ar;refine ⟨⟨?_,h.ap,h.apa,cs,kg.row a1 (λ q e f=>h.apa i hi g own (f ▸ e)),λ j hj=>?_⟩,kg.mono (λ q _ e=>by omega)⟩
 ·intro j hj
  by_cases ej:j=i
  ·subst ej
   have h0:w.ownsRow b2 3 1 (vs j) n (iv (xs j)):=by
    have:=h.rows j hj;unfold Row at this;rw [hl] at this;exact this
   rw [hv] at h0 ⊢;have:=(h0.stored k (.int .i64 z)).1;rw [e1];unfold Row;rw [List.length_set,hl];have e3:(iv (xs j)).set k (.int .i64 z)=iv ((xs j).set k z):=by unfold iv;rw [List.map_set]
   rw [<- e3];exact this
  ·rw [e2 j hj ej]
   exact kg.row (h.rows j hj) (λ q e f=>h.ap j i hj hi ej q e (by rw [f];exact own))
 ·obtain ⟨v,b1,b2', b3⟩:=a2 j hj
  exact ⟨v,b1,kg.row b2' (λ q e f=>(b3 q e).2 i hi (by rw [f];exact own)),b3⟩
theorem LS.put {w0 w:World} {rv sa sb:Value} {vs:Nat->Value} {va:Value} {xs xs' : Nat->List Int} {AA:List (List Int)} (h:LS w0 w rv sa sb vs va xs AA) {i:Nat} (hi:i<3) {g n cap k:Nat} {z:Int} (hv:vs i=.slice (some ⟨g,0,none⟩) n cap) (hl:(xs i).length=n) (e1:xs' i=(xs i).set k z) (e2:∀ j,j<3->j≠i->xs' j=xs j) :
  LS w0 (w.setCell ⟨g,k,none⟩ (.int .i64 z)) rv sa sb vs va xs' AA:=by
 obtain ⟨f1,f2⟩:=h.fam.put (k:=k) hi hv hl e1 e2;refine ⟨f1,f2.at h.blk (by omega),f2.at h.two (by omega),h.kept.trans f2 (λ q hq f=>by omega),?_⟩;have:=f2.size;have:=h.big;omega
theorem Zr3 {base:Nat} {w:World} {g n cap:Nat} {xs:List Int} (h:w.ownsRow base 3 1 (.slice (some ⟨g,0,none⟩) n cap) n (iv xs)):Jd w g n (λ i=>at' xs i):=by
 have hl:xs.length=n:=by have:=h.1;simp [iv] at this;omega
 rcases h.2 with ⟨e,_⟩ | ⟨g', cap', cur,e,hb,hg,h1,h2,h3,h4⟩
 ·cases e
 ·simp only [Value.slice.injEq,Option.some.injEq,Addr.mk.injEq,and_true,true_and] at e
  obtain ⟨rfl,rfl⟩:=e;refine ⟨cur,_,hg,by omega,λ i hi=>?_⟩;have e1:cur[i]? = (cur.toList.take (n * 1))[i]? := by rw [List.getElem?_take_of_lt (by omega)];simp
  rw [e1,h4];unfold iv;rw [List.getElem?_map,List.getElem?_eq_getElem (by omega)];show _=some (Value.int .i64 (at' xs (i:Nat)));rw [Yl _ _ (by omega)];rfl
theorem Fam.form {b2:Nat} {w:World} {vs:Nat->Value} {xs:Nat->List Int} {va:Value} {AA:List (List Int)} (h:Fam b2 w vs xs va AA) {i n:Nat} (hi:i<3) (hl:(xs i).length=n) (hn:0<n):∃ g cap,vs i=.slice (some ⟨g,0,none⟩) n cap∧Jd w g n (λ k=>at' (xs i) k)∧g<w.heap.size:=by
 have h0:w.ownsRow b2 3 1 (vs i) n (iv (xs i)):=by
  have:=h.rows i hi;unfold Row at this;rw [hl] at this;exact this
 obtain ⟨g,cap,e,h1,h2⟩:=World.ownsRow.form h0 hn;exact ⟨g,cap,e,Zr3 (e ▸ h0),h2⟩
theorem LS.net {w0 w:World} {rv sa sb:Value} {vs:Nat->Value} {va:Value} {L:List Sym} {T J U R:List Int} {N:Nat} {up:Nat->Nat} {rep:Nat->Int} (h:LS w0 w rv sa sb vs va (tri T U R) ((List.range N).map (λ p=>(Zm L J p).map (λ k:Nat=>(k:Int))))) (hJ:J.length=N) (hT:T.length=N) (hN:0<N) (hU:U.length=N+200) (hR:R.length=N+200) (eU:∀ i,i<N+200->at' U i=(up i:Int)) (eR:∀ i,i<N+200->at' R i=rep i) :
  ∃ B,B.nb=w0.heap.size∧NC L B w T J up rep∧B.top<=w.heap.size∧w0.heap.size<=B.ub∧w0.heap.size<=B.rb:=by
 obtain ⟨tb,tc,t1,t2,t3⟩:=h.fam.form (i:=0) (n:=N) (by omega) hT hN;obtain ⟨ub,uc,u1,u2,u3⟩:=h.fam.form (i:=1) (n:=N+200) (by omega) hU (by omega);obtain ⟨rb,rc,r1,r2,r3⟩:=h.fam.form (i:=2) (n:=N+200) (by omega) hR (by omega);obtain ⟨cs,a1,a2⟩:=h.fam.ar;rw [List.length_map,List.length_range] at a1;obtain ⟨ab,ac,v1,v2,v3⟩:=World.ownsRow.form a1 hN;have o0:(vs 0).ownBlock=some tb:=by rw [t1];rfl
 have o1:(vs 1).ownBlock=some ub:=by rw [u1];rfl
 have o2:(vs 2).ownBlock=some rb:=by rw [r1];rfl
 have oa:va.ownBlock=some ab:=by rw [v1];rfl
 have hb1:=Xd (h.fam.rows 1 (by omega)) o1;have hb2:=Xd (h.fam.rows 2 (by omega)) o2;have hbig:=h.big;have n2:tb≠ub:=λ e=>h.fam.ap 0 1 (by omega) (by omega) (by omega) tb o0 (by rw [e];exact o1);have n2' : tb≠rb:=λ e=>h.fam.ap 0 2 (by omega) (by omega) (by omega) tb o0 (by rw [e];exact o2);have n3:ab≠ub:=λ e=>h.fam.apa 1 (by omega) ub o1 (by rw [<- e];exact oa);have n3' : ab≠rb:=λ e=>h.fam.apa 2 (by omega) rb o2 (by rw [<- e];exact oa);have n4:ub≠rb:=λ e=>h.fam.ap 1 2 (by omega) (by omega) (by omega) ub o1 (by rw [e];exact o2);refine ⟨⟨w0.heap.size,tb,ab,ub,rb,tc,ac,uc,rc,rv,w.heap.size⟩,rfl,⟨?_,?_,?_,v3,?_,?_,?_,?_,?_,n4,by show w0.heap.size<w.heap.size;omega,t3,v3,u3,r3⟩,Nat.le_refl _,by show w0.heap.size<=ub;omega,by show w0.heap.size<=rb;omega⟩
 ·show w.heap[w0.heap.size]? = _
  rw [h.blk,t1,u1,r1,v1,hJ]
 ·show Jd w tb J.length _
  rw [hJ];exact t2
 ·intro p hp
  rw [hJ] at hp;obtain ⟨v,b1,b2,b3⟩:=a2 p (by simpa using hp);have hc:=World.ownsRow.cellAt (v1 ▸ a1) p (by omega);have e3:((List.range N).map (λ p=>(Zm L J p).map (λ k:Nat=>(k:Int))))[p]'(by simpa using hp)=(Zm L J p).map (λ k:Nat=>(k:Int)):=by simp
  rw [e3] at b2;obtain ⟨go,gc,rfl,g2,g3,g4⟩:=b2.ints;rw [List.length_map] at b1;refine ⟨go,gc,by rw [hc,b1],g2,λ a e=>?_⟩;subst e;have hq:=b3 a.block rfl;refine ⟨?_,(g4 a rfl).2⟩;rintro (f | f)
  ·exact hq.2 1 (by omega) (by rw [f];exact o1)
  ·exact hq.2 2 (by omega) (by rw [f];exact o2)
 ·show Jd w ub (J.length+200) _
  rw [hJ];exact u2.congr eU
 ·show Jd w rb (J.length+200) _
  rw [hJ];exact r2.congr eR
 ·rintro (f | f)
  ·have:w0.heap.size=ub:=f;omega
  ·have:w0.heap.size=rb:=f;omega
 ·rintro (f | f)
  ·exact n2 f
  ·exact n2' f
 ·rintro (f | f)
  ·exact n3 f
  ·exact n3' f
def Zkr (w:World) (L:List Sym) (ap:Bool) (a b:List Int) (e:Ending) (w' : World):Prop:=∃ B,e=.returned (.pointer (some ⟨B.nb,0,none⟩))∧NC L B w' (a++b) (jl a b (apI ap)) (up0 ap (a.length+b.length) a.length (a++b)) (Ze7 (a.length+b.length) (a++b))∧B.top<=w'.heap.size∧Za w w' ∧ w.heap.size<=B.ub∧w.heap.size<=B.rb
theorem Zcr (w:World) (N which:Nat) (ap:Bool) (n:Nat) (hN:N<=4000) (hw:which<=1) (hn:n<=98):Calls Tryz.prog 184 #[.int .i64 (N:Int),.bool ap,.int .i64 (which:Int),.int .i64 (n:Int)] w λ e w' => e=.returned (.int .i64 (Zoc ap N which (-(n:Int)-1):Int))∧w' = w:=by
 have e0:(-(-(n:Int)-1)-1).toNat=n:=by omega
 cases ap
 ·have e1:((Zoc false N which (-(n:Int)-1):Nat):Int)=(N:Int)+2 * (n:Int):=by unfold Zoc;rw [e0];simp
  rw [e1];have i1:(N:Int)<=4000:=by omega
  have i2:(n:Int)<=98:=by omega
  go_enter Tryz.func184,Tryz.ntmps184
  go_wp2_with fail
  go_returns
  exact ⟨rfl,rfl⟩
 ·have e1:((Zoc true N which (-(n:Int)-1):Nat):Int)=(N:Int)+2 * (n:Int)+(which:Int):=by unfold Zoc;rw [e0];simp
  rw [e1];have i1:(N:Int)<=4000:=by omega
  have i2:(n:Int)<=98:=by omega
  have i3:(which:Int)<=1:=by omega
  go_enter Tryz.func184,Tryz.ntmps184
  go_wp2_with fail
  go_returns
  exact ⟨rfl,rfl⟩
end
theorem Zty {L:List Sym} {a b:List Int} {ap:Int} (h0:0<=ap) (x3:IsT L a) (y3:IsT L b) {vv:Int->List Int} (vT:∀ n,n<0->IsT L (vv n)) {T:List Int} (va:Vl vv a=T) (vb:Vl vv (b.map (shF ap))=T) :
  ∃ val:Int->List Int,Good L (jl a b ap) val∧val 0=T∧val (a.length:Nat)=T∧∀ n,n<0->val n=vv n:=by
 have hT:=Zcn (apart:=ap) h0 x3 y3;obtain ⟨val,hval⟩:∃ val:Int->List Int,val=λ x=>if x<0 then vv x else Vl vv (Zkx L (jl a b ap) x.toNat):=⟨_,rfl⟩
 have vn:∀ n,n<0->val n=vv n:=λ n hn=>by rw [hval];simp only;rw [if_pos hn]
 have vp:∀ p:Nat,val p=Vl vv (Zkx L (jl a b ap) p):=λ p=>by rw [hval];simp only;rw [if_neg (by omega),Int.toNat_natCast]
 refine ⟨val,⟨λ p hp hs=>?_,λ p hp hs=>?_,λ x hx=>?_⟩,?_,?_,vn⟩
 ·rw [vp,Zgt hT hp,Yn,if_neg (by omega),Zhi]
  simp only [vp];rfl
 ·rw [vp,Zgt hT hp,Yn,if_pos hs,vn _ hs]
  have:Zm L (jl a b ap) p=[]:=by unfold Zm;rw [show arN L (at' (jl a b ap) p)=0 by unfold arN;rw [if_pos hs]];rfl
  rw [this];simp [Vl]
 ·by_cases h:x<0
  ·rw [vn x h];exact vT x h
  ·obtain ⟨p,rfl⟩:=Int.eq_ofNat_of_zero_le (Int.not_lt.1 h)
   have:=vp p;show IsT L (val (p:Int));rw [this];unfold IsT;rw [Zd6 _ (λ n _ hn=>vT n hn)];exact Zp6 hT (by have:=hx.2;omega)
 ·have:=vp 0
  rw [show ((0:Nat):Int)=0 from rfl] at this;rw [this,<- va];congr 1;unfold Zkx;rw [show Zq L (jl a b ap) 0=a.length from Zep (b:=b.map (shF ap)) x3];unfold jl;rw [List.drop_zero,Nat.sub_zero,List.take_left]
 ·rw [vp,<- vb]
  congr 1;unfold Zkx;rw [show Zq L (jl a b ap) a.length=a.length+(b.map (shF ap)).length from Zcg (a:=a) (Zl9 h0 y3)];unfold jl;rw [List.drop_left,Nat.add_sub_cancel_left,List.take_length]
theorem Zav {L:List Sym} {a b:List Int} {ap:Nat} (hap:ap<=99) (ha:Ze L a=0) (hb:Ze L b=0) {ld:Int->Int} (hc:Jt L (jl a b ap) a.length ld) {u:List Int} (hu:Val L (jl a b ap) ld 0 u) :
  ∃ val:Int->List Int,Good L (jl a b ap) val∧val 0=u∧val (a.length:Nat)=u∧∀ n,n<0->IsT L (val n):=by
 obtain ⟨x1,x2,x3⟩:=Zg.1 ha;obtain ⟨y1,y2,y3⟩:=Zg.1 hb;have hlow:=Zh2 ha hb hap;obtain ⟨f,hf⟩:=Zii L (jl a b ap) ld;obtain ⟨e1,e2⟩:=Zl7 (by omega) x3 y3 hc hf hu;obtain ⟨vv,hvv⟩:∃ vv:Int->List Int,vv=λ n=>if -198<=n then f n else [n]:=⟨_,rfl⟩
 have v1:∀ n, -198<=n->vv n=f n:=λ n h=>by rw [hvv];simp only;rw [if_pos h]
 have vT:∀ n,n<0->IsT L (vv n):=by
  intro n hn
  by_cases h : -198<=n
  ·rw [v1 n h];exact hf.isT hc.trs hc.ok hn ⟨h,by omega⟩
  ·rw [hvv];simp only;rw [if_neg h];exact Zd7 L hn
 have va:Vl vv a=u:=by
  rw [e1];exact Jr a (λ n hn _=>v1 n (hlow n (by unfold jl;simp [hn])))
 have vb:Vl vv (b.map (shF ap))=u:=by
  rw [e2];exact Jr _ (λ n hn _=>v1 n (hlow n (by unfold jl;exact List.mem_append_right _ hn)))
 obtain ⟨val,g1,g2,g3,g4⟩:=Zty (ap:=(ap:Int)) (by omega) x3 y3 vT va vb;exact ⟨val,g1,g2,g3,λ n hn=>by rw [g4 n hn];exact vT n hn⟩
def nsF (L:List Sym) (J:List Int) (m:Nat):Option ((Int->Int) × Int):=
 match Zj4 L J ((J.length+1) * J.length+2) (ld0 J) [(0,m)] with
 | some (some ld)=>
  match Vy L J ld (J.length+1) (λ _=>0) 0 with
  | some (k,_)=>if k = -1 then none else some (ld,k)
  | none=>none
 | _=>none
theorem Zgs {L:List Sym} {J:List Int} (hT:Trs L J) (hv:∀ x∈J, -198<=x) {m:Nat} (h0:0<J.length) (hm:m<J.length) :
  ∃ res,NOk L J res ((J.length+1) * J.length+2) (ld0 J) [(0,m)]∧(res=none->nsF L J m=none)∧∀ ld,res=some ld->Jt L J m ld∧∃ k sz', Vy L J ld (J.length+1) (λ _=>0) 0=some (k,sz')∧(k = -1->nsF L J m=none)∧(k ≠ -1->nsF L J m=some (ld,k)∧∃ u,Val L J ld 0 u∧k=min (u.length:Int) 2001):=by
 have hl:=Zpw hv;have hroot:=Zhv J (ld0 J);have hb:=Nat.mul_le_mul_left (J.length+1) hroot;have hp:∀ r∈[((0:Nat),m)],r.1<J.length∧r.2<J.length:=λ r hr=>by simp at hr;rw [hr];exact ⟨h0,hm⟩
 obtain ⟨res,e1⟩:=Zt9 hT ((J.length+1) * J.length+2) (ld0 J) [(0,m)] hl hp (by simp;omega);have hN:NOk L J res ((J.length+1) * J.length+2) (ld0 J) [(0,m)]:=⟨hT,hl,hp,e1,by simp;omega⟩;refine ⟨res,hN,?_,?_⟩
 ·intro e
  rw [e] at e1;unfold nsF;rw [e1]
 ·intro ld e
  subst e;have hc:=Znr hN;have hz:Zbd (λ _=>0):=λ p=>.inr ⟨by simp,by simp⟩;have hk:Zgk L J ld (λ _=>0):=λ p _ _ h=>by simp at h
  have p0:Z2 J 0:=Zn (p:=0) h0;obtain ⟨k,sz', g1,g2⟩:=Ziv hT hc.ok (J.length+1) (λ _=>0) 0 p0 hz (by have:=Zum J.length (λ _=>0);omega);obtain ⟨-,g4⟩:=Zfz hT hc.ok _ _ _ _ _ p0 hz hk g1;refine ⟨hc,k,sz', g1,?_,?_⟩
  ·intro e
   unfold nsF;rw [e1];simp only [g1];rw [if_pos e]
  ·intro e
   exact ⟨by unfold nsF;rw [e1];simp only [g1];rw [if_neg e],g4 e⟩
theorem Zk6 {L:List Sym} {J:List Int} (hT:Trs L J) (hv:∀ x∈J, -198<=x) {m:Nat} (h0:0<J.length) (hm:m<J.length) {val:Int->List Int} (hg:Good L J val) (he:val 0=val m) :
  ∃ ld k u,nsF L J m=some (ld,k)∧Jt L J m ld∧Val L J ld 0 u∧k=min (u.length:Int) 2001∧val 0=Vl val u:=by
 obtain ⟨res,hU,hR1,hR2⟩:=Zgs hT hv h0 hm
 have hst:∀ x,Z2 J x->val (ld0 J x)=val x:=by
  intro x hx
  by_cases h:0<=x∧at' J x<0
  ·have e:ld0 J x=at' J x:=by unfold ld0;rw [if_pos h]
   obtain ⟨p,rfl⟩:=Int.eq_ofNat_of_zero_le h.1;rw [e];exact (hg.var p (by have:=hx.2;omega) h.2).symm
  ·have e:ld0 J x=x:=by unfold ld0;rw [if_neg h]
   rw [e]
 obtain ⟨ld,rfl,hc⟩:=Zrk (Zl8 hT hg) _ _ _ _ hU hst (λ r hr=>by
  simp only [List.mem_cons,List.not_mem_nil,or_false] at hr;subst hr
  exact he)
 obtain ⟨hcl,k,sz', hs,hk1,hk2⟩:=hR2 ld rfl;obtain ⟨u,hu,hvu⟩:=Zfh hT hcl.ok hg hc _ 0 (Nat.le_refl _) (Zn (p:=0) h0);have hk:k ≠ -1:=λ e=>(Ziw hT hcl.ok _ _ _ _ _ (Zn (p:=0) h0) (λ p=>.inr ⟨by simp,by simp⟩) hs).2 e (λ p _ _ f=>by simp at f) u hu;obtain ⟨e1,u', hu', hku⟩:=hk2 hk;have:=hu'.uniq hu;subst this;exact ⟨ld,k,u', e1,hcl,hu,hku,hvu⟩
theorem Zsn {L:List Sym} {a b:List Int} {ap:Nat} (hap:ap<=99) (ha:Ze L a=0) (hb:Ze L b=0) :
  (nsF L (jl a b ap) a.length=none->Zeu L (jl a b ap) a.length=none)∧∀ ld k u,nsF L (jl a b ap) a.length=some (ld,k)->Jt L (jl a b ap) a.length ld->Val L (jl a b ap) ld 0 u->∃ v,Zqp L a b ap v∧v.length=u.length∧wrF [] u=wrF [] v:=by
 obtain ⟨x1,x2,x3⟩:=Zg.1 ha;obtain ⟨y1,y2,y3⟩:=Zg.1 hb;have hT:=Zcn (apart:=(ap:Int)) (by omega) x3 y3;have hv:=Zh2 ha hb hap;have p1:=Z6 x3;have p2:=Z6 y3;have hl:(jl a b ap).length=a.length+b.length:=by simp [jl]
 constructor
 ·intro h
  rcases com_u hap ha hb with e | ⟨u,ld,k,h1,hc,hu,h3⟩
  ·exact e
  ·obtain ⟨val,g1,g2,g3,g4⟩:=Zav hap ha hb hc hu
   obtain ⟨ld', k', u', e1,_⟩:=Zk6 hT hv (m:=a.length) (by omega) (by omega) g1 (by rw [g2,g3]);rw [h] at e1;cases e1
 ·intro ld k u h hc hu
  obtain ⟨val,g1,g2,g3,g4⟩:=Zav hap ha hb hc hu;obtain ⟨ld', k', v,e1,hc', hv', hk', ev,_⟩:=Zl4 hT hv (m:=a.length) (by omega) (by omega) g1 (by rw [g2,g3]);obtain ⟨val2,f1,f2,f3,f4⟩:=Zav hap ha hb hc' hv';obtain ⟨ld2,k2,u2,d1,d2,d3,d4,d5⟩:=Zk6 hT hv (m:=a.length) (by omega) (by omega) f1 (by rw [f2,f3]);rw [h] at d1;simp only [Option.some.injEq,Prod.mk.injEq] at d1;obtain ⟨rfl,rfl⟩:=d1;have:=d3.uniq hu;subst this;rw [g2] at ev;rw [f2] at d5;have e:=Zi1 (g:=val) (g' := val2) (λ n _ hn=>g4 n hn) (λ n _ hn=>f4 n hn) ev d5;have hll:=congrArg List.length e;rw [Zac,Zac] at hll;exact ⟨v,⟨ld', k', e1,hc', hv', hk'⟩,hll.symm,e⟩
section
open Go.RowKit
attribute [local go_sem ↓] Go.wp_at_zero Go.wp_at_succ
def SolQ (L:List Sym) (ap:Bool) (T J:List Int) (la:Nat) (w:World) (e:Ending) (w' : World):Prop:=Za w w' ∧ (nsF L J la=none->e=.returned (.tuple #[.pointer none,.int .i64 0]))∧∀ ld k,nsF L J la=some (ld,k)->∃ B,e=.returned (.tuple #[.pointer (some ⟨B.nb,0,none⟩),.int .i64 k])∧NAt L ap B w' T J ld∧B.top<=w'.heap.size
theorem Zvy (ap:Bool):∃ k:Nat,apI ap=(k:Int)∧k<=99:=by cases ap;exact ⟨0,rfl,by omega⟩;exact ⟨99,rfl,by omega⟩
theorem Zwf {a b:List Int} {ap:Bool} {p:Nat} (hp:p<(jl a b (apI ap)).length) (h:0<=at' (jl a b (apI ap)) p):at' (a++b) p=at' (jl a b (apI ap)) p:=by
 have hl:p<a.length+b.length:=by simpa [jl] using hp
 have e:=at_jl (ap:=ap) hl;have h0:0<=apI ap:=by unfold apI;split <;> omega
 rw [e] at h ⊢
 by_cases q:at' (a++b) p<0∧a.length<=p
 ·rw [if_pos q] at h;omega
 ·rw [if_neg q]
theorem Zng {w:World} {rv:Value} {L:List Sym} {ao bo:Option Addr} {ac bc:Nat} {a b:List Int} (hca:Ze L a=0) (hcb:Ze L b=0) {ap:Bool} (cL:Calls Tryz.prog 176 #[rv,.slice ao a.length ac,.slice bo b.length bc,.bool ap] w (Zkr w L ap a b)) :
  Calls Tryz.prog 153 #[rv,.slice ao a.length ac,.slice bo b.length bc,.bool ap] w (SolQ L ap (a++b) (jl a b (apI ap)) a.length w):=by
 obtain ⟨i0,hi0,hz0,hz1,hz2⟩:=info_parts Zdz;obtain ⟨a1,a2,a3⟩:=Zg.1 hca;obtain ⟨b1,b2,b3⟩:=Zg.1 hcb;have p1:=Z6 a3;have p2:=Z6 b3;obtain ⟨k9,hk9,hk99⟩:=Zvy ap;have hap0:0<=apI ap:=by omega
 have hT:=Zcn (apart:=apI ap) hap0 a3 b3;have hv:∀ x∈jl a b (apI ap), -198<=x:=by rw [hk9];exact Zh2 hca hcb hk99
 obtain ⟨cl0,ρ0,hr0⟩:=Zwu (ap:=ap) (λ x hx=>((Z4.1 a2) x hx).2) (λ x hx=>((Z4.1 b2) x hx).2);have hsy:∀ p:Nat,p<(jl a b (apI ap)).length->0<=at' (jl a b (apI ap)) p->at' (a++b) p=at' (jl a b (apI ap)) p:=λ p hp h=>Zwf hp h;unfold Zkr at cL;obtain ⟨J,hJ⟩:∃ J,jl a b (apI ap)=J:=⟨_,rfl⟩;obtain ⟨T,hTT⟩:∃ T,a++b=T:=⟨_,rfl⟩;have hJl:J.length=a.length+b.length:=by rw [<- hJ];simp [jl]
 rw [hJ] at hT hv hr0 cL hsy ⊢;rw [hTT] at hr0 cL hsy ⊢;obtain ⟨up0', hup0⟩:∃ u,up0 ap (a.length+b.length) a.length T=u:=⟨_,rfl⟩;obtain ⟨rep0', hrep0⟩:∃ u,Ze7 (a.length+b.length) T=u:=⟨_,rfl⟩;rw [hup0,hrep0] at hr0 cL;obtain ⟨la,hla⟩:∃ la,a.length=la:=⟨_,rfl⟩;obtain ⟨lb,hlb⟩:∃ lb,b.length=lb:=⟨_,rfl⟩;rw [hla] at cL hJl a1 p1 ⊢;rw [hlb] at cL hJl b1 p2 ⊢;obtain ⟨res,hN,hR1,hR2⟩:=Zgs hT hv (m:=la) (by omega) (by omega)
 have CJ:Hid (∀ B w1,NC L B w1 T J up0' rep0' -> B.top<=w1.heap.size->Calls Tryz.prog 177 #[.pointer (some ⟨B.nb,0,none⟩),.int .i64 0,.int .i64 (la:Int)] w1 (NEnd L ap B T J res w1)):=by
  intro B w1 h1 h2;exact Zqa (a:=0) (m:=la) ⟨_,_,_,_,h1,hr0⟩ (by omega) hsy h2 hN
 clear hr0 hsy hup0 hrep0 hla hlb hJ hTT hk9 hca hcb a2 b2 a3 b3;cases res with
 | none=>
  have HX:Hid (∀ w', Za w w' -> SolQ L ap T J la w (.returned (.tuple #[.pointer none,.int .i64 0])) w'):=by
   intro w' hk;refine ⟨hk,λ _=>rfl,λ ld k e=>?_⟩;rw [hR1 rfl] at e;cases e
  clear hN hR1 hR2 hT hv
  go_enter Tryz.func153,Tryz.ntmps153
  go_wp2_with (first | (go_at_call 176;refine cL.mono ?_;rintro e w1 ⟨B,rfl,hC1,ht1,hk1,hu1,hb1⟩) | (go_at_call 177;refine (CJ.out B w1 hC1 ht1).mono ?_;rintro e w2 ⟨-,hj2,hk2⟩;obtain rfl:=hj2 rfl))
  go_ret2
  exact HX.out _ (hk1.trans hk2 (λ q hq f=>by rcases f with f | f <;> omega))
 | some ld=>
  obtain ⟨hcl,k,sz', hs,hk1,hk2⟩:=hR2 ld rfl;obtain ⟨M,hM⟩:∃ M,J.length+200=M:=⟨_,rfl⟩
  have hm1:∀ w:World,(Instr.makeSlice 32 (.int .i64 (M:Int)) (.int .i64 (M:Int))).run Tryz.prog w=.ok (.slice (some ⟨w.heap.size,0,none⟩) M M) (w.alloc (.cells (madeCells #[.int .i64 0] M) 3)):=λ w=>by
   have:=run_make w 32 3 i0 _ Tryz.underlying32 hi0 hz0 .i64 .i64 (M:Int) (M:Int) (by omega) (by omega) (by rw [hz2];omega) (by omega)
   simpa [hz1,Value.cells] using this
  have CS:Hid (∀ B w2 up rep cl ρ,NC L B w2 T J up rep->NR ap J up rep cl ρ ld->B.top<=w2.heap.size->Calls Tryz.prog 178 #[.pointer (some ⟨B.nb,0,none⟩),.slice (some ⟨w2.heap.size,0,none⟩) M M,.int .i64 0] (w2.alloc (.cells (madeCells #[.int .i64 0] M) 3)) (Zlb ap J rep cl w2.heap.size (w2.alloc (.cells (madeCells #[.int .i64 0] M) 3)) k sz')):=by
   intro B w2 up rep cl ρ h1 h2 h3;subst hM;exact Zps hT hcl.ok (by omega) h2 h3 _ _ _ _ 0 k sz' (h1.same (Zc.alloc (Zc.refl _ w2) _)) (Ztt w2 (J.length+200)) (λ c _ _=>⟨λ p _=>rfl,λ _=>.inl rfl⟩) (by omega) (λ p=>.inr ⟨by simp,by simp⟩) hs
  have C3:Hid (∀ B w2 up rep,NC L B w2 T J up rep->w2.cell? ⟨B.nb,3,none⟩=some (.slice (some ⟨B.ub,0,none⟩) M B.uc)):=by
   intro B w2 up rep h1;rw [<- hM];exact h1.cells.2.2.1
  have K4:Hid (∀ (B:NB) (w1 w2 w4:World),Za w w1->Zc B.Two w1 w2->w.heap.size<=B.ub->w.heap.size<=B.rb->Zc (λ q=>q=w2.heap.size) (w2.alloc (.cells (madeCells #[.int .i64 0] M) 3)) w4->Za w w4):=by
   intro B w1 w2 w4 q1 q2 q3 q4 q5;have s1:=q1.size;have s2:=q2.size;have k2:Za w w2:=q1.trans q2 (λ q hq f=>by rcases f with f | f <;> omega);exact (k2.trans' (Zc.alloc (Zc.refl _ w2) _)).trans q5 (λ q hq f=>by omega)
  by_cases hkk:k = -1
  ·have HX:Hid (∀ w', Za w w' -> SolQ L ap T J la w (.returned (.tuple #[.pointer none,.int .i64 0])) w'):=by
    intro w' hk;refine ⟨hk,λ _=>rfl,λ ld k e=>?_⟩;rw [hk1 hkk] at e;cases e
   have CS2:Hid (∀ B w2 up rep cl ρ,NC L B w2 T J up rep->NR ap J up rep cl ρ ld->B.top<=w2.heap.size->Calls Tryz.prog 178 #[.pointer (some ⟨B.nb,0,none⟩),.slice (some ⟨w2.heap.size,0,none⟩) M M,.int .i64 0] (w2.alloc (.cells (madeCells #[.int .i64 0] M) 3)) λ e w4=>e=.returned (.int .i64 (-2))∧Zc (λ q=>q=w2.heap.size) (w2.alloc (.cells (madeCells #[.int .i64 0] M) 3)) w4):=by
    intro B w2 up rep cl ρ h1 h2 h3;refine (CS.out B w2 up rep cl ρ h1 h2 h3).mono ?_;rintro e w4 ⟨q1,mz', _,_,q4⟩;rw [if_pos hkk] at q1;exact ⟨q1,q4⟩
   clear hN hR1 hR2 hT hv CS hs hcl hk1 hk2 hM hkk
   go_enter Tryz.func153,Tryz.ntmps153
   go_wp2_with (first | (go_at_call 176;refine cL.mono ?_;rintro e w1 ⟨B,rfl,hC1,ht1,hk1,hu1,hb1⟩) | (go_at_call 177;refine (CJ.out B w1 hC1 ht1).mono ?_;rintro e w2 ⟨hj2, -,hk2⟩;obtain ⟨rfl,up2,rep2,cl2,ρ2,hC2,hr2⟩:=hj2 ld rfl;have c3:=C3.out B w2 up2 rep2 hC2;have ht2:=Nat.le_trans ht1 hk2.size) | (go_at_call 178;refine (CS2.out B w2 up2 rep2 cl2 ρ2 hC2 hr2 ht2).mono ?_;rintro e w4 ⟨rfl,hk4⟩))
   go_ret2
   exact HX.out _ (K4.out B w1 w2 _ hk1 hk2 hu1 hb1 hk4)
  ·obtain ⟨e1,u,hu,hku⟩:=hk2 hkk
   have hpos:0<=k:=by omega
   have HX:Hid (∀ B w', Za w w' -> NAt L ap B w' T J ld->B.top<=w'.heap.size->SolQ L ap T J la w (.returned (.tuple #[.pointer (some ⟨B.nb,0,none⟩),.int .i64 k])) w'):=by
    intro B w' q1 q2 q3;refine ⟨q1,λ e=>(by rw [e1] at e;cases e),λ ld' k' e=>?_⟩;rw [e1] at e;simp only [Option.some.injEq,Prod.mk.injEq] at e;obtain ⟨rfl,rfl⟩:=e;exact ⟨B,rfl,q2,q3⟩
   have CS2:Hid (∀ B w2 up rep cl ρ,NC L B w2 T J up rep->NR ap J up rep cl ρ ld->B.top<=w2.heap.size->Calls Tryz.prog 178 #[.pointer (some ⟨B.nb,0,none⟩),.slice (some ⟨w2.heap.size,0,none⟩) M M,.int .i64 0] (w2.alloc (.cells (madeCells #[.int .i64 0] M) 3)) λ e w4=>e=.returned (.int .i64 k)∧NAt L ap B w4 T J ld∧B.top<=w4.heap.size∧Zc (λ q=>q=w2.heap.size) (w2.alloc (.cells (madeCells #[.int .i64 0] M) 3)) w4):=by
    intro B w2 up rep cl ρ h1 h2 h3;refine (CS.out B w2 up rep cl ρ h1 h2 h3).mono ?_;rintro e w4 ⟨q1,mz', _,_,q4⟩;rw [if_neg hkk] at q1;have h1' := h1.same (Zc.alloc (Zc.refl _ w2) (.cells (madeCells #[.int .i64 0] M) 3));refine ⟨q1,⟨up,rep,cl,ρ,h1'.kept q4 (λ q hq f=>by omega),h2⟩,?_,q4⟩;have:=q4.size;rw [World.size_alloc] at this;omega
   clear hN hR1 hR2 hT hv CS hs hcl hk1 hk2 hM hku hu e1
   go_enter Tryz.func153,Tryz.ntmps153
   go_wp2_with (first | (go_at_call 176;refine cL.mono ?_;rintro e w1 ⟨B,rfl,hC1,ht1,hk1,hu1,hb1⟩) | (go_at_call 177;refine (CJ.out B w1 hC1 ht1).mono ?_;rintro e w2 ⟨hj2, -,hk2⟩;obtain ⟨rfl,up2,rep2,cl2,ρ2,hC2,hr2⟩:=hj2 ld rfl;have c3:=C3.out B w2 up2 rep2 hC2;have ht2:=Nat.le_trans ht1 hk2.size) | (go_at_call 178;refine (CS2.out B w2 up2 rep2 cl2 ρ2 hC2 hr2 ht2).mono ?_;rintro e w4 ⟨rfl,hA4,ht4,hk4⟩))
   go_ret2
   exact HX.out B _ (K4.out B w1 w2 _ hk1 hk2 hu1 hb1 hk4) hA4 ht4
end
end Go.Proofs.YtjahpnbijefncaaGreat
