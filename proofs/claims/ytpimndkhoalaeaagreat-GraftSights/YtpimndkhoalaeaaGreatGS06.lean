import Derived.Test.YtpimndkhoalaeaaGreatGS05
import Derived.Test.YtpimndkhoalaeaaGreatGS04
import Derived.Test.YtpimndkhoalaeaaGreatGS03
namespace Go.Proofs.YtpimndkhoalaeaaGreat
set_option maxRecDepth 100000
set_option linter.unusedVariables false
open Go.RowKit
attribute [local go_sem ↓] Go.wp_at_zero Go.wp_at_succ
theorem iv_set (xs:List Int) (k:Nat) (z:Int):iv (xs.set k z)=(iv xs).set k (.int .i64 z):=by simp [iv,List.map_set]
theorem made_ints (n:Nat):(madeCells (Value.int .i64 0).cells (n * 1)).toList=iv (List.replicate n 0):=by
 rw [Nat.mul_one,show (Value.int .i64 0).cells = #[Value.int .i64 0] from rfl,toList_madeCells_one]
 simp [iv]
theorem row_int {w:World} {base g N:Nat} {m:List Int} (h:w.ownsRow base 3 1 (.slice (some ⟨g,0,none⟩) N N) N (iv m)) {k:Nat} (hk:k<N):∃ z,m[k]? = some z∧w.cell? ⟨g,k,none⟩=some (.int .i64 z)∧w.frozen? ⟨g,k,none⟩=false:=by
 have hl:m.length=N:=by have:=h.1;simp [iv] at this;omega
 refine ⟨m[k]'(by omega),by simp [hl,hk],?_,h.frozenAt k⟩
 rw [h.cellAt k (by omega)]
 simp [iv,hl,hk]
abbrev LdAt (wr:World) (lb N:Nat) (lead:List Int):Prop:=wr.ownsRow lb 3 1 (.slice (some ⟨lb,0,none⟩) N N) N (iv lead)
theorem LdAt.put {w wr:World} {lb N:Nat} {lead:List Int} (h:LdAt wr lb N lead) (hw:Same0 w wr) (hlo:w.heap.size≤lb) (b:Nat) (z:Int):LdAt (wr.setCell ⟨lb,b,none⟩ (.int .i64 z)) lb N (lead.set b z)∧Same0 w (wr.setCell ⟨lb,b,none⟩ (.int .i64 z))∧Kept (fun k=>k=lb) wr (wr.setCell ⟨lb,b,none⟩ (.int .i64 z)):=
 ⟨by unfold LdAt;rw [iv_set];exact (h.stored b _).1,hw.own hlo _,Kept.setCell (S:=fun k=>k=lb) (Kept.refl _ _) (p:=⟨lb,b,none⟩) (fun _=>rfl) _⟩
def DAt (wr:World) (lb:Nat) (bo:Option Addr) (D:List Int):Prop:=IntsAt wr bo D∧∀ x,bo=some x→D≠[]→x.block<wr.heap.size∧x.block≠lb
set_option maxHeartbeats 4000000 in
theorem ringed_any {w:World} {ao:Option Addr} {ac:Nat} {l:List Nd} (h:NsW w ao l) (hin:InL l) (few:∀ x∈l,x.2.1.length≤6) (hN:l.length≤4000) :
  Calls Tryz.prog 67 #[.slice ao l.length ac] w fun e w' => RingQ l w e w' := by
 obtain ⟨i,hi,hz0,hz1,hz2⟩:=info_parts info_intT
 have HL:Hid (∀ ww,Same0 w ww→∀ j (hj:j<l.length),∃ nb noff xo xc,ao=some ⟨nb,noff,none⟩∧ww.cell? ⟨nb,noff+j * 5,none⟩=some (.int .i64 l[j].1)∧ww.cell? ⟨nb,noff+j * 5+1,none⟩=some (.slice xo l[j].2.1.length xc)∧ww.cell? ⟨nb,noff+j * 5+2,none⟩=some (.int .i64 l[j].2.2.1)∧ww.cell? ⟨nb,noff+j * 5+3,none⟩=some (.bool l[j].2.2.2.1)∧ww.cell? ⟨nb,noff+j * 5+4,none⟩=some (.int .i64 l[j].2.2.2.2)∧Arg ww xo l[j].2.1 xc∧∀ x,xo=some x→l[j].2.1≠[]→x.block<w.heap.size):=fun ww hk j hj=>by
  rcases h with e | ⟨nb,noff,e,hnb,hn⟩
  ·rw [e] at hj;simp at hj
  ·obtain ⟨xo,xc,n0,n1,n2,n3,n4,n5⟩:=hn j hj
   have hlt:∀ x,xo=some x→l[j].2.1≠[]→x.block<w.heap.size:=fun x q h0=>n5.at'.lt h0 q
   have t:∀ o,ww.cell? ⟨nb,o,none⟩=w.cell? ⟨nb,o,none⟩:=fun o=>hk.cell (p:=⟨nb,o,none⟩) hnb (fun f=>f)
   exact ⟨nb,noff,xo,xc,e,(t _).trans n0,(t _).trans n1,(t _).trans n2,(t _).trans n3,(t _).trans n4,n5.onto hk,hlt⟩
 have HI:Hid (InL l):=hin
 have HW:Hid (∀ x∈l,x.2.1.length≤6):=few
 have HDD:Hid (∀ j (hj:j<l.length),dnL l j=downL l[j]):=fun j hj=>dnL_at hj
 obtain ⟨N,hNe⟩:∃ N,N=l.length:=⟨_,rfl⟩
 have HNE:Hid (N=l.length):=hNe
 have HL0:Hid (Ld l 0 0 (List.replicate N 0)):=by rw [hNe];exact Ld.start l
 rw [← hNe] at hN ⊢
 have i5:(0:Int)≤(N:Int):=by omega
 have i6:(N:Int)≤4000:=by omega
 clear h hin few hNe
 go_enter Tryz.func67,Tryz.ntmps67
 go_upto_region 2 with (first | (at_make;refine wpList_make_full _ rfl _ _ 33 rfl w.heap.size 3 i _ 1 Tryz.underlying33 hi hz0 hz1 _ _ _ _ N rfl rfl rfl rfl (by rw [hz2];omega) (by unfold maxLen;omega) (Nat.le_refl _) ?_;intro w1 hown hgrow))
 rw [made_ints] at hown
 have K1:Same0 w w1:=Same0.grown (Kept.refl _ w) hgrow
 obtain ⟨lb,hlb⟩:∃ lb,lb=w.heap.size:=⟨_,rfl⟩
 have hlo:w.heap.size≤lb:=by omega
 have hlb1:lb<w1.heap.size:=by rw [hlb];exact (hown.lt w.heap.size rfl).2
 rw [← hlb] at hown ⊢
 have HR1:Hid (LdAt w1 lb N (List.replicate N 0)):=hown
 clear hlb hown hgrow hz0 hz1 hz2 hi
 go_upto_region 3 with fail
 go_loopw [19] (fun i wr=>∃ (k:Nat) (lead:List Int),i=.int .i64 (k:Int)∧k≤N∧Hid (LdAt wr lb N lead)∧Hid (Ld l k 0 lead)∧Same0 w wr∧lb<wr.heap.size) (fun i _=>N-(intOf i).toNat)
 case atStart=>exact ⟨0,_,rfl,Nat.zero_le _,HR1,HL0,K1,hlb1⟩
 case round=>
  clear K1 HR1 HL0 hlb1
  obtain ⟨k,lead,rfl,hk,HR,HD,hw,hlb1⟩:=hrel
  by_cases hlt:k<N
  ·have hkl:k<l.length:=by rw [← HNE.out];exact hlt
   have j1:(k:Int)<(N:Int):=by omega
   have j2:(0:Int)≤(k:Int):=by omega
   obtain ⟨nb,noff,xo,xc,rfl,n0,n1,n2,n3,n4,n5,n6⟩:=HL.out wr hw k hkl
   have kb:Same0 wr (wr.alloc (.cells #[.int .i64 l[k].1,.slice xo l[k].2.1.length xc,.int .i64 l[k].2.2.1,.bool l[k].2.2.2.1,.int .i64 l[k].2.2.2.2] 86)):=(Kept.refl _ _).alloc _
   have CN:=next_any (n5.onto kb)
   have HDB:Hid (∀ z∈downL l[k],0≤z∧z<(l.length:Int)):=HI.out k hkl
   have dl:(downL l[k]).length≤1000:=by have:=HW.out _ (List.getElem_mem hkl);unfold downL;split <;> (simp;try omega)
   have HDE:Hid (dnL l k=downL l[k]):=HDD.out k hkl
   have HKB:Hid (Same0 wr (wr.alloc (.cells #[.int .i64 l[k].1,.slice xo l[k].2.1.length xc,.int .i64 l[k].2.2.1,.bool l[k].2.2.2.1,.int .i64 l[k].2.2.2.2] 86))):=kb
   have HN6:Hid (∀ x,xo=some x→l[k].2.1≠[]→x.block<w.heap.size):=n6
   generalize downL l[k]=D at *
   clear n5 kb n6
   go_upto_region 6 with (first | (go_at_call 85;refine CN.mono ?_;rintro e w3 ⟨bo,bc,rfl,hD,hbo,k3⟩))
   have hk3:=HKB.out.trans' k3
   have hw3:=hw.trans' hk3
   have HR3:Hid (LdAt w3 lb N lead):=hk3.row HR.out (fun _ _ f=>f)
   have HDA:Hid (DAt w3 lb bo D):=⟨hD,fun x e h0=>by
    have h1:=hk3.size
    have h2:=HKB.out.size
    have h3:=hw.size
    rcases hbo x e with ⟨q,q'⟩ | ⟨q1,q2⟩
    ·have:=HN6.out x q (by rw [← q'];exact h0);exact ⟨by omega,by omega⟩
    ·exact ⟨q2,by omega⟩⟩
   have hlb3:lb<w3.heap.size:=Nat.lt_of_lt_of_le hlb1 hk3.size
   clear CN n0 n1 n2 n3 n4 hD hbo k3 hk3
   go_loopw [26] (fun c wr2=>∃ (q:Nat) (lead' : List Int),c=.int .i64 (q:Int)∧q≤D.length∧Hid (LdAt wr2 lb N lead')∧Hid (Ld l k q lead')∧Hid (DAt wr2 lb bo D)∧Same0 w wr2∧lb<wr2.heap.size) (fun c _=>D.length-(intOf c).toNat)
   case atStart=>exact ⟨0,lead,rfl,Nat.zero_le _,HR3,HD,HDA,hw3,hlb3⟩
   case round=>
    clear HR3 HDA hw3 hlb3 HR HD hw hlb1
    obtain ⟨q,lead', rfl,hq,HR', HD', HA', hw', hlb'⟩:=hrel
    by_cases hql:q<D.length
    ·have q0:(0:Int)≤(q:Int):=by omega
     have q1:(q:Int)<(D.length:Int):=by omega
     have hD0:D≠[]:=fun q=>by rw [q] at hql;simp at hql
     obtain ⟨db,doff,rfl, -,cD⟩:=HA'.out.1.get hql
     have hz:=HDB.out _ (List.getElem_mem hql)
     obtain ⟨b,hb⟩:∃ b:Nat,D[q]=(b:Int):=⟨D[q].toNat,by omega⟩
     have hbl:b<l.length:=by omega
     have hbN:b<N:=by rw [HNE.out];exact hbl
     have q2:(0:Int)≤(b:Int):=by omega
     have q3:(b:Int)<(N:Int):=by omega
     have HD1:Hid (∃ v:Int,lead'[b]? = some v∧0≤v∧Ld l k (q+1) (lead'.set b (v+1))):=HD'.out.one (by rw [HDE.out];exact hql) (by simp only [HDE.out];exact hb) hbl
     have hbd:=HD'.out.bound HW.out (Nat.le_of_lt hkl) b
     obtain ⟨v,m0,m1,m2⟩:=row_int HR'.out hbN
     have hv6:=hbd v m0
     obtain ⟨v', e1,e2,e3⟩:=HD1.out
     rw [m0] at e1
     cases e1
     have HLN:Hid (Ld l k (q+1) (lead'.set b (v+1))):=e3
     obtain ⟨P1,P2,P3⟩:=HR'.out.put hw' hlo b (v+1)
     have HP1:Hid (LdAt (wr.setCell ⟨lb,b,none⟩ (.int .i64 (v+1))) lb N (lead'.set b (v+1))):=P1
     have HPA:Hid (DAt (wr.setCell ⟨lb,b,none⟩ (.int .i64 (v+1))) lb (some ⟨db,doff,none⟩) D):=⟨HA'.out.1.kept P3 (fun x e t=>(HA'.out.2 x e hD0).2 t),fun x e h0=>⟨Nat.lt_of_lt_of_le (HA'.out.2 x e h0).1 P3.size,(HA'.out.2 x e h0).2⟩⟩
     have hlb4:lb<(wr.setCell ⟨lb,b,none⟩ (.int .i64 (v+1))).heap.size:=Nat.lt_of_lt_of_le hlb' P3.size
     have v6:v≤24006:=by rw [← HNE.out] at hv6;omega
     rw [hb] at cD
     clear hb hz HD1 hbd m0 e3 P1 P3 hv6 hD0
     go_wp2
     go_roundw
     case rel=>exact ⟨q+1,_,by go_num,by omega,HP1,HLN,HPA,P2,hlb4⟩
     case measure=>simp [intOf];omega
    ·obtain rfl:q=D.length:=by omega
     have HLN:Hid (Ld l (k+1) 0 lead'):=Ld.next (by rw [HDE.out];exact HD'.out)
     go_wp2
     go_roundw
     case rel=>exact ⟨k+1,lead', by go_num,by omega,HR', HLN,hw', hlb'⟩
     case measure=>simp [intOf];omega
  ·obtain rfl:N=k:=by omega
   have HLD:Hid (Ld l l.length 0 lead):=by have:=HD.out;rw [HNE.out] at this;exact this
   have HBD:Hid (∀ (b:Nat) (v:Int),lead[b]? = some v→0≤v∧v≤24006):=fun b v hv=>by
    have h1:=HLD.out.bound HW.out (Nat.le_refl _) b v hv
    have hb:b<l.length:=by have:=(List.getElem?_eq_some_iff.1 hv).1;rw [HLD.out.1] at this;exact this
    rw [HLD.out.2 b hb] at hv
    cases hv
    have h0:l.length≤4000:=by rw [← HNE.out];exact hN
    exact ⟨by omega,by omega⟩
   clear HD hlt hk
   go_upto_region 13 with fail
   go_loopw [8,40] (fun f i wr2=>∃ (k:Nat) (T:List Nat),i=.int .i64 (k:Int)∧k≤N∧Hid (LdAt wr2 lb N lead)∧Hid (Row (lb+1) wr2 f (ofN T))∧Hid (Zr lead k T)∧Same0 w wr2∧lb<wr2.heap.size) (fun _ i _=>N-(intOf i).toNat)
   case atStart=>exact ⟨0,[],rfl,Nat.zero_le _,HR,World.ownsRow_nil _ _ _ _,Zr.start lead,hw,hlb1⟩
   case round=>
    clear HR hw hlb1
    obtain ⟨k,T,rfl,hk,HR,HT,HZ,hw,hlb1⟩:=hrel
    obtain ⟨to', tc,rfl⟩:=row_shape HT.out
    have hTN:(ofN T).length≤4000:=by rw [ofN_len'];have:=HZ.out.le;omega
    by_cases hlt:k<N
    ·obtain ⟨v,m0,m1,m2⟩:=row_int HR.out hlt
     have j1:(k:Int)<(N:Int):=by omega
     have j2:(0:Int)≤(k:Int):=by omega
     have hkl:k<lead.length:=(List.getElem?_eq_some_iff.1 m0).1
     have HM0:Hid (lead[k]? = some v):=m0
     by_cases hv:v=0
     ·subst hv
      have HZN:Hid (Zr lead (k+1) (T ++ [k])):=HZ.out.yes HM0.out
      have hbs:lb+1≤wr.heap.size:=hlb1
      have hTR:=HT.out
      clear m0 m2
      go_wp2_with (first | (at_builtin;refine wpList_push rfl _ _ 33 rfl Tryz.underlying33 (lb+1) (ofN T) _ rfl hTR (k:Int) rfl hbs (by omega) ?_;intro g4 cap4 w4 hr4 hk4 hor))
      have HR4:Hid (LdAt w4 lb N lead):=hk4.row HR.out (fun i e t=>by
       have h1:=(HT.out.lt i t).1
       have h2:lb=i:=Option.some.inj e
       omega)
      have HT4:Hid (Row (lb+1) w4 (.slice (some ⟨g4,0,none⟩) ((ofN T).length+1) cap4) (ofN (T ++ [k]))):=by show Row _ _ _ _;rw [ofN_snoc];exact hr4
      have hw4:Same0 w w4:=hw.trans hk4 (fun i hi e=>by have:=(HT.out.lt i e).1;omega)
      have hlb4:lb<w4.heap.size:=Nat.lt_of_lt_of_le hlb1 hk4.size
      clear hr4 hk4 hor hTR
      go_roundw
      case rel=>exact ⟨k+1,T ++ [k],by go_num,by omega,HR4,HT4,HZN,hw4,hlb4⟩
      case measure=>simp [intOf];omega
     ·have HZN:Hid (Zr lead (k+1) T):=HZ.out.no hkl (by have:=HM0.out;rw [List.getElem?_eq_getElem hkl] at this;simp at this;rw [this];exact hv)
      clear m0 m2
      go_wp2
      go_roundw
      case rel=>exact ⟨k+1,T,by go_num,by omega,HR,HT,HZN,hw,hlb1⟩
      case measure=>simp [intOf];omega
    ·have hkN:k=N:=by omega
     have HK0:Hid (Kh l (fun a=>∃ p:Nat,p<0∧T[p]? = some a) (dnL l) lead T):=by
      have hz:=HZ.out
      rw [hkN,HNE.out] at hz
      exact (Kh.start HLD.out hz).more (fun a f=>f.elim) (fun a ⟨p,hp,_⟩=>absurd hp (Nat.not_lt_zero _))
     have j9:¬ (k:Int)<(N:Int):=by omega
     clear hkN HZ HLD
     go_upto_region 19 with fail
     go_loopw [8,11] (fun f i wr2=>∃ (k:Nat) (T:List Nat) (lead:List Int) (R:Nat→List Int),i=.int .i64 (k:Int)∧k≤(ofN T).length∧Hid (LdAt wr2 lb N lead)∧Hid (Row (lb+1) wr2 f (ofN T))∧Hid (Kh l (fun a=>∃ p:Nat,p<k∧T[p]? = some a) R lead T)∧Hid (∀ p a:Nat,p<k→T[p]? = some a→R a=[])∧Hid (∀ (b:Nat) (v:Int),lead[b]? = some v→0≤v∧v≤24006)∧Same0 w wr2∧lb<wr2.heap.size) (fun _ i _=>N-(intOf i).toNat)
     case atStart=>exact ⟨0,T,lead,dnL l,rfl,Nat.zero_le _,HR,HT,HK0,fun p a hp=>absurd hp (Nat.not_lt_zero _),HBD,hw,hlb1⟩
     case round=>
      clear HR HT HK0 HBD hw hlb1 j9 hlt hk hTN
      obtain ⟨k,T,lead,R,rfl,hk,HR,HT,HK,HE,HBD,hw,hlb1⟩:=hrel
      obtain ⟨to', tc,rfl⟩:=row_shape HT.out
      have hTN:(ofN T).length≤N:=by rw [ofN_len', HNE.out];exact HK.out.le
      by_cases hlt:k<(ofN T).length
      ·have j0:(0:Int)≤(k:Int):=by omega
       have j1:(k:Int)<((ofN T).length:Int):=by omega
       have hkT:k<T.length:=by rwa [ofN_len'] at hlt
       obtain ⟨c,hc⟩:∃ c,c=T[k]:=⟨_,rfl⟩
       have hTk:T[k]? = some c:=by rw [hc];simp [hkT]
       have hcl:c<l.length:=HK.out.lt (List.mem_of_getElem? hTk)
       have j2:(0:Int)≤(c:Int):=by omega
       have j3:(c:Int)<(N:Int):=by rw [HNE.out];omega
       have HTK:Hid (T[k]? = some c):=hTk
       have HRC:Hid (R c=dnL l c):=HK.out.rest c hcl (fun ⟨p,hp,he⟩=>HK.out.nd p k c hp he hTk)
       obtain ⟨fo', ac', e,hfi, -, -⟩:=HT.out.ints
       cases e
       obtain ⟨fb,foff,rfl, -,cF⟩:=hfi.get hlt
       rw [ofN_at hlt,← hc] at cF
       obtain ⟨nb,noff,xo,xc,rfl,n0,n1,n2,n3,n4,n5,n6⟩:=HL.out wr hw c hcl
       have CN:=next_any n5
       have HDB:Hid (∀ z∈downL l[c],0≤z∧z<(l.length:Int)):=HI.out c hcl
       have dl:(downL l[c]).length≤1000:=by have:=HW.out _ (List.getElem_mem hcl);unfold downL;split <;> (simp;try omega)
       have HRD:Hid (R c=downL l[c]):=by show _=_;rw [HRC.out];exact HDD.out c hcl
       have HN6:Hid (∀ x,xo=some x→l[c].2.1≠[]→x.block<w.heap.size):=n6
       generalize downL l[c]=D at *
       clear n5 n6 hfi hc hTk HRC
       go_upto_region 22 with (first | (go_at_call 85;refine CN.mono ?_;rintro e w3 ⟨bo,bc,rfl,hD,hbo,k3⟩))
       have hw3:=hw.trans' k3
       have HR3:Hid (LdAt w3 lb N lead):=k3.row HR.out (fun _ _ f=>f)
       have HT3:Hid (Row (lb+1) w3 (.slice (some ⟨fb,foff,none⟩) (ofN T).length tc) (ofN T)):=k3.row HT.out (fun _ _ f=>f)
       have HDA:Hid (DAt w3 lb bo D∧∀ x,bo=some x→D≠[]→(Value.slice (some ⟨fb,foff,none⟩) (ofN T).length tc).ownBlock≠some x.block):=by
        have h1:=k3.size
        have h3:=hw.size
        have hfb:=HT.out.lt fb rfl
        have hne:(Value.slice (some ⟨fb,foff,none⟩) (ofN T).length tc).ownBlock=some fb:=rfl
        refine ⟨⟨hD,fun x e h0=>?_⟩,fun x e h0 t=>?_⟩
        ·rcases hbo x e with ⟨q,q'⟩ | ⟨q1,q2⟩
         ·have:=HN6.out x q (by rw [← q'];exact h0);exact ⟨by omega,by omega⟩
         ·exact ⟨q2,by omega⟩
        ·rw [hne] at t
         have t' : fb=x.block:=Option.some.inj t
         rcases hbo x e with ⟨q,q'⟩ | ⟨q1,q2⟩
         ·have:=HN6.out x q (by rw [← q'];exact h0);omega
         ·omega
       have hlb3:lb<w3.heap.size:=Nat.lt_of_lt_of_le hlb1 k3.size
       have HK3:Hid (Kh l (fun a=>∃ p:Nat,p<k+1∧T[p]? = some a) R lead T):=HK.out.more (fun a ⟨p,hp,he⟩=>⟨p,by omega,he⟩) (fun a ⟨p,hp,he⟩=>List.mem_of_getElem? he)
       clear CN n0 n1 n2 n3 n4 hD hbo k3 cF
       go_loopw [8,67] (fun f c' wr2=>∃ (q:Nat) (T' : List Nat) (lead' : List Int) (R' : Nat→List Int),c' = .int .i64 (q:Int)∧q≤D.length∧Hid (LdAt wr2 lb N lead')∧Hid (Row (lb+1) wr2 f (ofN T'))∧Hid (Kh l (fun a=>∃ p:Nat,p<k+1∧T[p]? = some a) R' lead' T')∧Hid (R' c=D.drop q)∧Hid (∀ p a:Nat,p<k→T[p]? = some a→R' a=[])∧Hid (∀ p:Nat,p<k+1→T'[p]? = T[p]?)∧Hid (∀ (b:Nat) (v:Int),lead'[b]? = some v→0≤v∧v≤24006)∧Hid (DAt wr2 lb bo D∧∀ x,bo=some x→D≠[]→f.ownBlock≠some x.block)∧Same0 w wr2∧lb<wr2.heap.size) (fun _ c' _=>D.length-(intOf c').toNat)
       case atStart=>exact ⟨0,T,lead,R,rfl,Nat.zero_le _,HR3,HT3,HK3,by (show _=_);rw [HRD.out];rfl,HE,fun p _=>rfl,HBD,HDA,hw3,hlb3⟩
       case round=>
        clear HR3 HT3 HK3 HDA hw3 hlb3 HR HT HK HRD HE HBD hw hlb1
        obtain ⟨q,T', lead', R', rfl,hq,HR', HT', HK', HC', HE', HX', HB', HA', hw', hlb'⟩:=hrel
        obtain ⟨vo,vc,rfl⟩:=row_shape HT'.out
        have hTN' : (ofN T').length≤N:=by rw [ofN_len', HNE.out];exact HK'.out.le
        by_cases hql:q<D.length
        ·have q0:(0:Int)≤(q:Int):=by omega
         have q1:(q:Int)<(D.length:Int):=by omega
         have hD0:Hid (D≠[]):=fun q=>by rw [q] at hql;simp at hql
         obtain ⟨db,doff,rfl, -,cD⟩:=HA'.out.1.1.get hql
         have hz:=HDB.out _ (List.getElem_mem hql)
         obtain ⟨b,hb⟩:∃ b:Nat,D[q]=(b:Int):=⟨D[q].toNat,by omega⟩
         have hbl:b<l.length:=by omega
         have hbN:b<N:=by rw [HNE.out];exact hbl
         have q2:(0:Int)≤(b:Int):=by omega
         have q3:(b:Int)<(N:Int):=by omega
         have hPc:∃ p:Nat,p<k+1∧T[p]? = some c:=⟨k,by omega,HTK.out⟩
         have hRq:R' c=(b:Int) :: D.drop (q+1):=by rw [HC'.out,List.drop_eq_getElem_cons hql,hb]
         obtain ⟨v,e1,e2,e3⟩:=HK'.out.strike hPc hRq hbl
         obtain ⟨v', m0,m1,m2⟩:=row_int HR'.out hbN
         rw [e1] at m0
         cases m0
         have hv:=(HB'.out b v e1).2
         have HC4:Hid (lose R' c (D.drop (q+1)) c=D.drop (q+1)):=by show _=_;unfold lose;rw [if_pos rfl]
         have HE4:Hid (∀ p a:Nat,p<k→T[p]? = some a→lose R' c (D.drop (q+1)) a=[]):=fun p a hp he=>by
          have hne:a≠c:=fun e=>by
           subst e
           have h1:=HX'.out p (by omega)
           have h2:=HX'.out k (by omega)
           rw [he] at h1
           rw [HTK.out] at h2
           exact HK'.out.nd p k a hp h1 h2
          unfold lose;rw [if_neg hne];exact HE'.out p a hp he
         have HB4:Hid (∀ (j:Nat) (u:Int),(lead'.set b (v-1))[j]? = some u→0≤u∧u≤24006):=fun j u hu=>by
          rw [List.getElem?_set] at hu
          split at hu
          ·split at hu
           ·cases hu;omega
           ·cases hu
          ·exact HB'.out j u hu
         obtain ⟨P1,P2,P3⟩:=HR'.out.put hw' hlo b (v-1)
         have HP1:Hid (LdAt (wr.setCell ⟨lb,b,none⟩ (.int .i64 (v-1))) lb N (lead'.set b (v-1))):=P1
         have RW:Row (lb+1) (wr.setCell ⟨lb,b,none⟩ (.int .i64 (v-1))) (.slice vo (ofN T').length vc) (ofN T'):=P3.row HT'.out (fun i e t=>by have:=(HT'.out.lt i e).1;omega)
         have HPA:Hid (DAt (wr.setCell ⟨lb,b,none⟩ (.int .i64 (v-1))) lb (some ⟨db,doff,none⟩) D):=⟨HA'.out.1.1.kept P3 (fun x e t=>(HA'.out.1.2 x e hD0.out).2 t),fun x e h0=>⟨Nat.lt_of_lt_of_le (HA'.out.1.2 x e h0).1 P3.size,(HA'.out.1.2 x e h0).2⟩⟩
         have hlb4:lb<(wr.setCell ⟨lb,b,none⟩ (.int .i64 (v-1))).heap.size:=Nat.lt_of_lt_of_le hlb' P3.size
         have esz:(wr.setCell ⟨lb,b,none⟩ (.int .i64 (v-1))).heap.size=wr.heap.size:=by simp [World.setCell]
         have HA2:Hid (∀ x,some (⟨db,doff,none⟩:Addr)=some x→D≠[]→(Value.slice vo (ofN T').length vc).ownBlock≠some x.block):=HA'.out.2
         rw [hb] at cD
         rcases e3 with ⟨e4,e5⟩ | ⟨e4,e5⟩
         ·have HK4:Hid (Kh l (fun a=>∃ p:Nat,p<k+1∧T[p]? = some a) (lose R' c (D.drop (q+1))) (lead'.set b (v-1)) (T' ++ [b])):=e5
          have hbs:lb+1≤(wr.setCell ⟨lb,b,none⟩ (.int .i64 (v-1))).heap.size:=hlb4
          have hv1:v=1:=by omega
          have HX4:Hid (∀ p:Nat,p<k+1→(T' ++ [b])[p]? = T[p]?):=fun p hp=>by
           have h2:=HX'.out k (by omega)
           rw [HTK.out] at h2
           have h3:=(List.getElem?_eq_some_iff.1 h2).1
           rw [List.getElem?_append_left (by omega)];exact HX'.out p hp
          subst hv1
          clear hb hz e1 e2 e4 e5 P1 P3 hRq hPc
          go_wp2_with (first | (at_builtin;refine wpList_pushN rfl _ _ 33 rfl Tryz.underlying33 (lb+1) (ofN T') _ rfl RW (b:Int) _ esz rfl hbs (by omega) ?_;intro g4 cap4 w4 hr4 hk4 hor))
          have HR4:Hid (LdAt w4 lb N (lead'.set b (1-1))):=hk4.row HP1.out (fun i e t=>by
           have h1:=(RW.lt i t).1
           have h2:lb=i:=Option.some.inj e
           omega)
          have HT4:Hid (Row (lb+1) w4 (.slice (some ⟨g4,0,none⟩) ((ofN T').length+1) cap4) (ofN (T' ++ [b]))):=by show Row _ _ _ _;rw [ofN_snoc];exact hr4
          have hw4:Same0 w w4:=P2.trans hk4 (fun i hi e=>by have:=(RW.lt i e).1;omega)
          have hlb5:lb<w4.heap.size:=Nat.lt_of_lt_of_le hlb4 hk4.size
          have HD4:Hid (DAt w4 lb (some ⟨db,doff,none⟩) D∧∀ x,some (⟨db,doff,none⟩:Addr)=some x→D≠[]→(Value.slice (some ⟨g4,0,none⟩) ((ofN T').length+1) cap4).ownBlock≠some x.block):=by
           refine ⟨⟨HPA.out.1.kept hk4 (fun x e t=>HA2.out x e hD0.out t),fun x e h0=>⟨Nat.lt_of_lt_of_le (HPA.out.2 x e h0).1 hk4.size,(HPA.out.2 x e h0).2⟩⟩,fun x e h0 t=>?_⟩
           cases e
           have t' : g4=db:=by simpa [Value.ownBlock] using t
           rcases hor with q' | q'
           ·rw [t'] at q'; exact HA2.out _ rfl h0 q'
           ·have h9:db<(wr.setCell ⟨lb,b,none⟩ (.int .i64 (1-1))).heap.size:=(HPA.out.2 ⟨db,doff,none⟩ rfl h0).1
            have h10:(wr.setCell ⟨lb,b,none⟩ (.int .i64 (1-1))).heap.size=(wr.setCell ⟨lb,b,none⟩ (.int .i64 0)).heap.size:=rfl
            omega
          clear hr4 hk4 hor RW
          go_roundw
          case rel=>exact ⟨q+1,T' ++ [b],_,_,by go_num,by omega,HR4,HT4,HK4,HC4,HE4,HX4,HB4,HD4,hw4,hlb5⟩
          case measure=>simp [intOf];omega
         ·have HK4:Hid (Kh l (fun a=>∃ p:Nat,p<k+1∧T[p]? = some a) (lose R' c (D.drop (q+1))) (lead'.set b (v-1)) T'):=e5
          have hv1:¬ v-1=0:=by omega
          have HRW:Hid (Row (lb+1) (wr.setCell ⟨lb,b,none⟩ (.int .i64 (v-1))) (.slice vo (ofN T').length vc) (ofN T')):=RW
          have HD4:Hid (DAt (wr.setCell ⟨lb,b,none⟩ (.int .i64 (v-1))) lb (some ⟨db,doff,none⟩) D∧∀ x,some (⟨db,doff,none⟩:Addr)=some x→D≠[]→(Value.slice vo (ofN T').length vc).ownBlock≠some x.block):=⟨HPA.out,HA2.out⟩
          clear hb hz e1 e5 P1 P3 hRq hPc RW
          go_wp2
          go_roundw
          case rel=>exact ⟨q+1,T', _,_,by go_num,by omega,HP1,HRW,HK4,HC4,HE4,HX', HB4,HD4,P2,hlb4⟩
          case measure=>simp [intOf];omega
        ·obtain rfl:q=D.length:=by omega
         have HKN:Hid (Kh l (fun a=>∃ p:Nat,p<k+1∧T'[p]? = some a) R' lead' T'):=HK'.out.more (fun a ⟨p,hp,he⟩=>⟨p,hp,by rw [HX'.out p hp];exact he⟩) (fun a ⟨p,hp,he⟩=>List.mem_of_getElem? he)
         have HEN:Hid (∀ p a:Nat,p<k+1→T'[p]? = some a→R' a=[]):=fun p a hp he=>by
          rw [HX'.out p hp] at he
          by_cases e:p=k
          ·subst e
           rw [HTK.out] at he
           cases he
           rw [HC'.out];simp
          ·exact HE'.out p a (by omega) he
         have hkT' : k+1≤(ofN T').length:=by
          have h2:=HX'.out k (by omega)
          rw [HTK.out] at h2
          have h3:=(List.getElem?_eq_some_iff.1 h2).1
          rw [ofN_len'];omega
         go_wp2
         go_roundw
         case rel=>exact ⟨k+1,T', lead', R', by go_num,hkT', HR', HT', HKN,HEN,HB', hw', hlb'⟩
         case measure=>simp [intOf];omega
      ·obtain rfl:k=(ofN T).length:=by omega
       have HD:Hid (T.length<l.length ↔ ¬ Ac l):=HK.out.done HI.out (fun a ha=>by
        obtain ⟨p,hp,hx⟩:=List.mem_iff_getElem.1 ha
        exact HE.out p a (by rw [ofN_len'];exact hp) (by rw [List.getElem?_eq_getElem hp,hx]))
       have HNT:Hid ((decide ((ofN T).length<N)=true) ↔ ¬ Ac l):=by
        have h1:=HD.out
        have h2:=HNE.out
        have h3:=ofN_len' T
        exact ⟨fun q=>h1.1 (by have:=of_decide_eq_true q;omega),fun q=>decide_eq_true (by have:=h1.2 q;omega)⟩
       clear hlt
       go_wp2
       go_ret
       exact ⟨_,rfl,HNT.out,hw⟩
set_option maxHeartbeats 300000 in
theorem isApp_any {w:World} {x:Nd} {ao:Option Addr} {ac:Nat} (hx:Arg w ao x.2.1 ac) (hp:x.2.2.2.1=false) (n:Nat) :
  Calls Tryz.prog 95 #[nodeV x ao ac,.int .i64 (n:Int)] w fun e w' => e=.returned (.bool (mayB n x))∧Same0 w w' := by
 obtain ⟨W0,hW0⟩:∃ W0,W0=w.alloc (.cells #[.int .i64 x.1,.slice ao x.2.1.length ac,.int .i64 x.2.2.1,.bool x.2.2.2.1,.int .i64 x.2.2.2.2] 86):=⟨_,rfl⟩
 have k0:Same0 w W0:=by rw [hW0];exact (Kept.refl _ w).alloc _
 obtain ⟨b0,b1,b2,b3,b4⟩:=box_node' w x ao ac (show Same0 _ W0 by rw [hW0];exact Kept.refl _ _)
 have HE:Hid (mayB n x=(decide (0≤x.1) && decide (x.2.1.length≤6) && insB (n:Int) x.2.1 && isMk x.2.2.1 && decide (x.2.2.2.2=0))):=may_app hp
 have hsz:=hx.size
 have CI:Hid (x.2.1.length≤6→Calls Tryz.prog 61 #[.int .i64 (n:Int),.slice ao x.2.1.length ac] W0 fun e w' => e=.returned (.bool (insB (n:Int) x.2.1))∧w' = W0):=fun h6=>inside_any ac (hx.at'.same k0) (by omega) (n:Int)
 have CM:=isMark_any x.2.2.1 W0
 have K0:Hid (Same0 w W0):=k0
 clear k0 hp hx
 generalize mayB n x=R at *
 generalize insB (n:Int) x.2.1=I at *
 generalize isMk x.2.2.1=M at *
 by_cases h1:0≤x.1
 ·by_cases h2:x.2.1.length≤6
  ·have C:=CI.out h2
   have h2' : (x.2.1.length:Int)≤6:=by omega
   cases I
   ·have HR:Hid (R=false):=by show _=_;rw [HE.out];simp
    clear HE CI
    go_enter Tryz.func95,Tryz.ntmps95
    go_upto_region 1 with fail
    rw [← hW0]
    clear hW0
    go_wp2_with (first | (go_at_call 61;refine C.mono ?_;rintro e w3 ⟨rfl,h3⟩;have h3:=h3.symm;subst h3))
    go_ret
    exact ⟨ret_bool HR.out.symm,K0.out⟩
   ·cases M
    ·have HR:Hid (R=false):=by show _=_;rw [HE.out];simp
     clear HE CI
     go_enter Tryz.func95,Tryz.ntmps95
     go_upto_region 1 with fail
     rw [← hW0]
     clear hW0
     go_wp2_with (first | (go_at_call 61;refine C.mono ?_;rintro e w3 ⟨rfl,h3⟩;have h3:=h3.symm;subst h3) | (go_at_call 60;refine CM.mono ?_;rintro e w3 ⟨rfl,h3⟩;have h3:=h3.symm;subst h3))
     go_ret
     exact ⟨ret_bool HR.out.symm,K0.out⟩
    ·have HR:Hid (R=decide (x.2.2.2.2=0)):=by show _=_;rw [HE.out];simp [h1,h2]
     clear HE CI
     go_enter Tryz.func95,Tryz.ntmps95
     go_upto_region 1 with fail
     rw [← hW0]
     clear hW0
     go_wp2_with (first | (go_at_call 61;refine C.mono ?_;rintro e w3 ⟨rfl,h3⟩;have h3:=h3.symm;subst h3) | (go_at_call 60;refine CM.mono ?_;rintro e w3 ⟨rfl,h3⟩;have h3:=h3.symm;subst h3))
     go_ret
     exact ⟨ret_bool (by rw [HR.out];rw [Bool.eq_iff_iff];simp),K0.out⟩
  ·have HR:Hid (R=false):=by show _=_;rw [HE.out];simp [h2]
   have h2' : ¬ (x.2.1.length:Int)≤6:=by omega
   clear HE CI
   go_enter Tryz.func95,Tryz.ntmps95
   go_upto_region 1 with fail
   rw [← hW0]
   clear hW0
   go_wp2
   go_ret
   exact ⟨ret_bool HR.out.symm,K0.out⟩
 ·have HR:Hid (R=false):=by show _=_;rw [HE.out];simp [h1]
  clear HE CI
  go_enter Tryz.func95,Tryz.ntmps95
  go_upto_region 1 with fail
  rw [← hW0]
  clear hW0
  go_wp2
  go_ret
  exact ⟨ret_bool HR.out.symm,K0.out⟩
set_option maxHeartbeats 300000 in
theorem isInd_any {w:World} {x:Nd} {ao:Option Addr} {ac:Nat} (hx:Arg w ao x.2.1 ac) (hp:x.2.2.2.1=true) (n:Nat) :
  Calls Tryz.prog 94 #[nodeV x ao ac,.int .i64 (n:Int)] w fun e w' => e=.returned (.bool (mayB n x))∧Same0 w w' := by
 obtain ⟨W0,hW0⟩:∃ W0,W0=w.alloc (.cells #[.int .i64 x.1,.slice ao x.2.1.length ac,.int .i64 x.2.2.1,.bool x.2.2.2.1,.int .i64 x.2.2.2.2] 86):=⟨_,rfl⟩
 have k0:Same0 w W0:=by rw [hW0];exact (Kept.refl _ w).alloc _
 obtain ⟨b0,b1,b2,b3,b4⟩:=box_node' w x ao ac (show Same0 _ W0 by rw [hW0];exact Kept.refl _ _)
 have HE:Hid (mayB n x=(decide (x.1=0) && decide (x.2.1.length=0) && decide (x.2.2.1=0) && insB (n:Int) [x.2.2.2.2])):=may_indir hp
 have hsz:=hx.size
 have CI:=inside_any 1 (ints_one W0 x.2.2.2.2) (by simp) (n:Int)
 have K0:Hid (Same0 w W0):=k0
 have K1:Hid (Same0 w (W0.alloc (.cells #[.int .i64 x.2.2.2.2] 3))):=k0.alloc _
 clear k0 hp hx
 generalize mayB n x=R at *
 generalize insB (n:Int) [x.2.2.2.2]=I at *
 by_cases h1:x.1=0
 ·by_cases h2:x.2.1.length=0
  ·by_cases h3:x.2.2.1=0
   ·have HR:Hid (R=I):=by show _=_;rw [HE.out];simp [h1,h2,h3]
    rw [h1] at b0
    rw [h2] at b1
    rw [h3] at b2
    clear HE h1 h2 h3
    go_enter Tryz.func94,Tryz.ntmps94
    go_upto_region 1 with fail
    rw [← hW0]
    clear hW0
    go_wp2_with (first | (go_at_call 61;refine CI.mono ?_;rintro e w3 ⟨rfl,rfl⟩))
    go_ret
    exact ⟨ret_bool HR.out.symm,K1.out⟩
   ·have HR:Hid (R=false):=by show _=_;rw [HE.out];simp [h3]
    rw [h1] at b0
    rw [h2] at b1
    clear HE h1 h2
    go_enter Tryz.func94,Tryz.ntmps94
    go_upto_region 1 with fail
    rw [← hW0]
    clear hW0
    go_wp2
    go_ret
    exact ⟨ret_bool HR.out.symm,K0.out⟩
  ·have HR:Hid (R=false):=by show _=_;rw [HE.out];simp;intro _ h;rw [h] at h2;simp at h2
   have h2' : ¬ (x.2.1.length:Int)=0:=by omega
   rw [h1] at b0
   clear HE h1
   go_enter Tryz.func94,Tryz.ntmps94
   go_upto_region 1 with fail
   rw [← hW0]
   clear hW0
   go_wp2
   go_ret
   exact ⟨ret_bool HR.out.symm,K0.out⟩
 ·have HR:Hid (R=false):=by show _=_;rw [HE.out];simp [h1]
  clear HE
  go_enter Tryz.func94,Tryz.ntmps94
  go_upto_region 1 with fail
  rw [← hW0]
  clear hW0
  go_wp2
  go_ret
  exact ⟨ret_bool HR.out.symm,K0.out⟩
set_option maxHeartbeats 300000 in
theorem shaped_any {w:World} {ao:Option Addr} {ac:Nat} {l:List Nd} (h:NsW w ao l) (hN:l.length≤4000) :
  Calls Tryz.prog 66 #[.slice ao l.length ac] w fun e w' => e=.returned (.bool (l.all (mayB l.length)))∧Same0 w w' := by
 have HL:Hid (∀ ww,Same0 w ww→NsW ww ao l):=fun ww hk=>h.same hk
 have KR:Same0 w w:=Kept.refl _ _
 have HNO:Hid (∀ k (hk:k<l.length),mayB l.length l[k]=false→l.all (mayB l.length)=false):=fun k hk e=>by
  rw [Bool.eq_false_iff]
  intro q
  rw [List.all_eq_true] at q
  rw [q _ (List.getElem_mem hk)] at e
  cases e
 clear h
 go_enter Tryz.func66,Tryz.ntmps66
 go_wp2
 go_loopw [7] (fun i wr=>∃ (k:Nat),i=.int .i64 (k:Int)∧k≤l.length∧Hid (∀ j (hj:j<l.length),j<k→mayB l.length l[j]=true)∧Same0 w wr) (fun i _=>l.length-(intOf i).toNat)
 case atStart=>exact ⟨0,rfl,Nat.zero_le _,fun j _ hj=>absurd hj (Nat.not_lt_zero _),KR⟩
 case round=>
  clear KR
  obtain ⟨k,rfl,hk,hall,hw⟩:=hrel
  by_cases hlt:k<l.length
  ·have j1:(k:Int)<(l.length:Int):=by omega
   have j2:(0:Int)≤(k:Int):=by omega
   rcases HL.out wr hw with e | ⟨nb,noff,e,hnb,hn⟩
   ·subst e;simp at hlt
   subst e
   obtain ⟨xo,xc,n0,n1,n2,n3,n4,n5⟩:=hn k hlt
   obtain ⟨W3,hW3⟩:∃ W3,W3=wr.alloc (.cells #[.int .i64 l[k].1,.slice xo l[k].2.1.length xc,.int .i64 l[k].2.2.1,.bool l[k].2.2.2.1,.int .i64 l[k].2.2.2.2] 86):=⟨_,rfl⟩
   have kb:Same0 wr W3:=by rw [hW3];exact (Kept.refl _ _).alloc _
   obtain ⟨x0,x1,x2,x3,x4⟩:=box_node' wr l[k] xo xc (show Same0 _ W3 by rw [hW3];exact Kept.refl _ _)
   have n6:=n5.onto kb
   have HBX:Hid (∀ ww,Same0 W3 ww→ww.cell? ⟨wr.heap.size,3,none⟩=some (.bool l[k].2.2.2.1)):=fun ww hk=>(box_node' wr l[k] xo xc (by rw [hW3] at hk;exact hk)).2.2.2.1
   have HN:=HNO.out k hlt
   have HKW:Hid (∀ ww,Same0 W3 ww→Same0 w ww):=fun ww hk=>(hw.trans' kb).trans' hk
   have HY:Hid (mayB l.length l[k]=true→Hid (∀ j (hj:j<l.length),j<k+1→mayB l.length l[j]=true)):=fun e j hj hjk=>by
    by_cases q:j=k
    ·subst q;exact e
    ·exact hall.out j hj (by omega)
   clear n5 kb hn hall
   generalize l[k]=y at *
   obtain ⟨ys,ya,ym,yp,yt⟩:=y
   simp only at *
   cases yp
   ·have CA:=isApp_any (x:=(ys,ya,ym,false,yt)) n6 rfl l.length
    clear n6
    generalize mayB l.length (ys,ya,ym,false,yt)=M at *
    go_upto_region 4 with fail
    rw [← hW3]
    clear hW3 n0 n1 n2 n3 n4
    cases M
    ·have HF:Hid (l.all (mayB l.length)=false):=HN rfl
     clear HN
     go_wp2_with (first | (go_at_call 95;refine CA.mono ?_;rintro e w5 ⟨rfl,k5⟩;have z3:=HBX.out w5 k5))
     go_ret
     exact ⟨ret_bool HF.out.symm,HKW.out _ k5⟩
    ·have HY2:=HY.out (by first | rfl | trivial)
     clear HN HY
     go_wp2_with (first | (go_at_call 95;refine CA.mono ?_;rintro e w5 ⟨rfl,k5⟩;have z3:=HBX.out w5 k5))
     have hw5:=HKW.out _ k5
     go_roundw
     case rel=>exact ⟨k+1,by go_num,by omega,HY2,hw5⟩
     case measure=>simp [intOf];omega
   ·have CA:=isInd_any (x:=(ys,ya,ym,true,yt)) n6 rfl l.length
    clear n6
    generalize mayB l.length (ys,ya,ym,true,yt)=M at *
    go_upto_region 4 with fail
    rw [← hW3]
    clear hW3 n0 n1 n2 n3 n4
    cases M
    ·have HF:Hid (l.all (mayB l.length)=false):=HN rfl
     clear HN
     go_wp2_with (first | (go_at_call 94;refine CA.mono ?_;rintro e w5 ⟨rfl,k5⟩;have z3:=HBX.out w5 k5))
     go_ret
     exact ⟨ret_bool HF.out.symm,HKW.out _ k5⟩
    ·have HY2:=HY.out (by first | rfl | trivial)
     clear HN HY
     go_wp2_with (first | (go_at_call 94;refine CA.mono ?_;rintro e w5 ⟨rfl,k5⟩;have z3:=HBX.out w5 k5))
     have hw5:=HKW.out _ k5
     go_roundw
     case rel=>exact ⟨k+1,by go_num,by omega,HY2,hw5⟩
     case measure=>simp [intOf];omega
  ·obtain rfl:k=l.length:=by omega
   have HF:Hid (l.all (mayB l.length)=true):=List.all_eq_true.2 (fun x hx=>by
    obtain ⟨j,hj,rfl⟩:=List.mem_iff_getElem.1 hx
    exact hall.out j hj hj)
   clear hall
   go_wp2
   go_ret
   exact ⟨ret_bool HF.out.symm,hw⟩
def RfE (room:Nat) (l:List Nd) (e:Int):Prop:=
 (room<l.length∧e=111)∨(l.length≤room∧l.all (mayB l.length)=false∧e=114)∨(l.length≤room∧l.all (mayB l.length)=true∧¬ Ac l∧e=113)∨(l.length≤room∧l.all (mayB l.length)=true∧Ac l∧e=0)
theorem RfE.uniq {room:Nat} {l:List Nd} {e e' : Int} (h:RfE room l e) (h' : RfE room l e'):e=e' := by
 rcases h with ⟨a,b⟩ | ⟨a,b,c⟩ | ⟨a,b,c,d⟩ | ⟨a,b,c,d⟩ <;> rcases h' with ⟨a', b'⟩ | ⟨a', b', c'⟩ | ⟨a', b', c', d'⟩ | ⟨a', b', c', d'⟩ <;> first | omega | exact absurd c' c | exact absurd c c' | (rw [b] at b'; cases b'; done)
theorem few_of_may {l:List Nd} (h:l.all (mayB l.length)=true):(∀ x∈l,mayB l.length x=true)∧InL l∧∀ x∈l,x.2.1.length≤6:=by
 have h1:∀ x∈l,mayB l.length x=true:=List.all_eq_true.1 h
 exact ⟨h1,inl_of_may h1,fun x hx=>(may_facts (h1 x hx)).2.1⟩
set_option maxHeartbeats 1000000 in
theorem refill_no {B:Nat→Prop} {w:World} {h g room:Nat} {l:List Nd} (p:HpB B w h g room l) {ao:Option Addr} {ac:Nat} {l' : List Nd} (hs:NsW w ao l') (hsz:l'.length≤maxLen) {E:Int} (hE:RfE room l' E) (h0:E≠0) :
  Calls Tryz.prog 36 #[.pointer (some ⟨h,0,none⟩),.slice ao l'.length ac] w fun e w' => e=.returned (.int .i64 E)∧Same0 w w' := by
 unfold maxLen at hsz
 obtain ⟨c0,c1⟩:=p.cells
 have hr2:=p.rm2
 have KR:Hid (Same0 w w):=Kept.refl _ _
 clear p
 rcases hE with ⟨a,rfl⟩ | ⟨a,b,rfl⟩ | ⟨a,b,c,rfl⟩ | ⟨a,b,c,rfl⟩
 ·have j1:(room:Int)<(l'.length:Int):=by omega
  clear hs
  go_enter Tryz.func36,Tryz.ntmps36
  go_wp2
  go_ret
  exact ⟨rfl,KR.out⟩
 ·have j1:¬ (room:Int)<(l'.length:Int):=by omega
  have CS:=shaped_any (ac:=ac) hs (by omega)
  rw [b] at CS
  clear hs b
  go_enter Tryz.func36,Tryz.ntmps36
  go_wp2_with (first | (go_at_call 66;refine CS.mono ?_;rintro e w1 ⟨rfl,k1⟩))
  go_ret
  exact ⟨rfl,k1⟩
 ·have j1:¬ (room:Int)<(l'.length:Int):=by omega
  have CS:=shaped_any (ac:=ac) hs (by omega)
  obtain ⟨f1,f2,f3⟩:=few_of_may b
  have CR:Hid (∀ ww,Same0 w ww→Calls Tryz.prog 67 #[.slice ao l'.length ac] ww fun e w' => RingQ l' ww e w'):=fun ww hk=>ringed_any (hs.same hk) f2 f3 (by omega)
  have HNA:Hid (¬ Ac l'):=c
  rw [b] at CS
  clear hs b f1 f2 f3 c
  go_enter Tryz.func36,Tryz.ntmps36
  go_upto_region 7 with (first | (go_at_call 66;refine CS.mono ?_;rintro e w1 ⟨rfl,k1⟩))
  have CR1:=CR.out w1 k1
  clear CR CS
  go_wp2_with (first | (go_at_call 67;refine CR1.mono ?_;rintro e w2 ⟨b,rfl,hb,k2⟩;obtain rfl:b=true:=hb.2 HNA.out))
  go_ret
  exact ⟨rfl,k1.trans' k2⟩
 ·exact absurd rfl h0
theorem NRow.zero {B:Nat→Prop} {base:Nat} {w:World} {v:Value} {l:List Nd} (h:NRow B base w v l):NRow B 0 w v l:=by
 obtain ⟨vs,h1,h2⟩:=h
 exact ⟨vs,row_mono h1 (Nat.zero_le _),h2⟩
theorem NRow.mono {B B' : Nat→Prop} {base:Nat} {w:World} {v:Value} {l:List Nd} (h:NRow B base w v l) (hB:∀ k,k<w.heap.size→B k→B' k):NRow B' base w v l:=by
 obtain ⟨vs,h1,h2⟩:=h
 exact ⟨vs,h1,h2.mono hB⟩
theorem set_room {w:World} {b:Nat} {v0 v1:Value} {t:TypeId} (h:w.heap[b]? = some (.cells #[v0,v1] t (0,0))) (u:Value):(w.setCell ⟨b,1,none⟩ u).heap[b]? = some (.cells #[v0,u] t (0,0)):=setAt h 1 u
def RfN (w:World) (r room:Nat) (l:List Nd) (E:Int) (w' : World):Prop:=
 (E≠0∧Same0 w w')∨(E=0∧∃ v,RhB (fun b=>w.heap.size≤b) w' r room v l∧Kept (fun k=>k=r) w w' ∧ ∀ k,v.ownBlock=some k→w.heap.size≤k)
set_option maxHeartbeats 2000000 in
theorem rrefill_any {B:Nat→Prop} {w:World} {r room:Nat} {v:Value} {l:List Nd} (p:RhB B w r room v l) {ao:Option Addr} {ac:Nat} {l' : List Nd} (hs:NsW w ao l') (hsz:l'.length≤maxLen) {E:Int} (hE:RfE room l' E) :
  Calls Tryz.prog 37 #[.pointer (some ⟨r,0,none⟩),.slice ao l'.length ac] w fun e w' => e=.returned (.int .i64 E)∧RfN w r room l' E w' := by
 unfold maxLen at hsz
 obtain ⟨c0,c1⟩:=p.cells
 have hr2:=p.rm2
 have KR:Same0 w w:=Kept.refl _ _
 have HE:Hid (∀ e,RfE room l' e→e=E):=fun e he=>he.uniq hE
 have HP:Hid (∀ ww,Same0 w ww→RhB B ww r room v l):=fun ww hk=>p.same hk
 have HX:Hid (∀ ww,Same0 w ww→NsW ww ao l'):=fun ww hk=>hs.same hk
 clear p hs hE
 by_cases a:room<l'.length
 ·have j1:(room:Int)<(l'.length:Int):=by omega
  obtain rfl:111=E:=HE.out 111 (.inl ⟨a,rfl⟩)
  have KH:Hid (Same0 w w):=KR
  clear KR HE
  go_enter Tryz.func37,Tryz.ntmps37
  go_wp2
  go_ret
  exact ⟨rfl,.inl ⟨by decide,KH.out⟩⟩
 ·have j1:¬ (room:Int)<(l'.length:Int):=by omega
  have l0:(0:Int)≤(l'.length:Int):=by omega
  have l1:(l'.length:Int)≤4000:=by omega
  have HA:Hid (l'.length≤room):=by show _≤_;omega
  go_enter Tryz.func37,Tryz.ntmps37
  go_upto_region 4 with fail
  clear c0 c1
  go_loopw [5] (fun i wr=>∃ k:Nat,i=.int .i64 (k:Int)∧k≤l'.length∧Hid (∀ j (hj:j<l'.length),j<k→mayB l'.length l'[j]=true)∧Same0 w wr) (fun i _=>l'.length-(intOf i).toNat)
  case atStart=>exact ⟨0,rfl,Nat.zero_le _,fun j _ hj=>absurd hj (Nat.not_lt_zero _),KR⟩
  case round=>
   clear KR
   obtain ⟨k,rfl,hk,hall,hw⟩:=hrel
   by_cases hlt:k<l'.length
   ·have j2:(k:Int)<(l'.length:Int):=by omega
    have j3:(0:Int)≤(k:Int):=by omega
    rcases HX.out wr hw with e | ⟨nb,noff,e,hnb,hn⟩
    ·rw [e] at hlt;simp at hlt
    subst e
    obtain ⟨xo,xc,n0,n1,n2,n3,n4,n5⟩:=hn k hlt
    have CM:=rmay_any n5 l'.length
    have HAF:mayB l'.length l'[k]=false→l'.all (mayB l'.length)=false:=fun e=>by
     rw [Bool.eq_false_iff]
     intro q
     rw [List.all_eq_true] at q
     rw [q _ (List.getElem_mem hlt)] at e
     cases e
    have HN:Hid (mayB l'.length l'[k]=false→114=E):=fun e=>HE.out 114 (.inr (.inl ⟨HA.out,HAF e,rfl⟩))
    clear HAF
    have HY:Hid (mayB l'.length l'[k]=true→Hid (∀ j (hj:j<l'.length),j<k+1→mayB l'.length l'[j]=true)):=fun e j hj hjk=>by
     by_cases q:j=k
     ·subst q;exact e
     ·exact hall.out j hj (by omega)
    clear n5 hn hall
    generalize mayB l'.length l'[k]=R at *
    cases R
    ·obtain rfl:114=E:=HN.out rfl
     clear HN HY HE
     go_wp2_with (first | (go_at_call 68;refine CM.mono ?_;rintro e w5 ⟨rfl,k5⟩))
     go_ret
     exact ⟨rfl,.inl ⟨by decide,hw.trans' k5⟩⟩
    ·have HY2:=HY.out rfl
     clear HN HY
     go_wp2_with (first | (go_at_call 68;refine CM.mono ?_;rintro e w5 ⟨rfl,k5⟩))
     have hw5:=hw.trans' k5
     go_roundw
     case rel=>exact ⟨k+1,by go_num,by omega,HY2,hw5⟩
     case measure=>simp [intOf];omega
   ·obtain rfl:k=l'.length:=by omega
    have hal:l'.all (mayB l'.length)=true:=List.all_eq_true.2 (fun x hx=>by
     obtain ⟨j,hj,rfl⟩:=List.mem_iff_getElem.1 hx
     exact hall.out j hj hj)
    obtain ⟨f1,f2,f3⟩:=few_of_may hal
    have HALL:Hid (l'.all (mayB l'.length)=true):=hal
    have HF1:Hid (∀ x∈l', mayB l'.length x=true):=f1
    have CR:=ring_any (ac:=ac) (HX.out wr hw) f2 f3 (by omega)
    have CN:Hid (∀ ww,Same0 w ww→Calls Tryz.prog 70 #[.slice ao l'.length ac] ww fun e w' => ∃ v,e=.returned v∧NRow (fun b=>ww.heap.size≤b) ww.heap.size w' v l' ∧ Same0 ww w'):=fun ww hk=>rnodes_any (HX.out ww hk) (by omega)
    clear hall hal f1 f2 f3 HX hk hlt
    go_upto_region 9 with (first | (go_at_call 69;refine CR.mono ?_;rintro e w6 ⟨b,rfl,hb,k6⟩))
    clear CR
    have hw6:=hw.trans' k6
    cases b
    ·have hac:Ac l' := by
      by_cases q:Ac l'
      ·exact q
      ·exact absurd (hb.2 q) (by simp)
     have HAC:Hid (Ac l'):=hac
     obtain rfl:0=E:=HE.out 0 (.inr (.inr (.inr ⟨HA.out,HALL.out,hac,rfl⟩)))
     have C7:=CN.out w6 hw6
     have HP7:Hid (∀ ww,Same0 w6 ww→ww.cell? ⟨r,0,none⟩=some (.int .i64 (room:Int))∧ww.cell? ⟨r,1,none⟩=some v∧ww.frozen? ⟨r,1,none⟩=false):=fun ww hk=>by
      have p7:=HP.out ww (hw6.trans' hk)
      exact ⟨p7.cells.1,p7.cells.2,frozenAt p7.box 1⟩
     clear hb hac HE CN
     go_wp2_with (first | (go_at_call 70;refine C7.mono ?_;rintro e w7 ⟨v7,rfl,hr7,k7⟩;obtain ⟨vo7,vc7,rfl⟩:=hr7.shape;obtain ⟨z0,z1,z2⟩:=HP7.out w7 k7))
     go_ret
     have p7:=HP.out w7 (hw6.trans' k7)
     have K8:Kept (fun k=>k=r) w7 (w7.setCell ⟨r,1,none⟩ (.slice vo7 l'.length vc7)):=Kept.setCell (S:=fun k=>k=r) (Kept.refl _ _) (p:=⟨r,1,none⟩) (fun _=>rfl) _
     have hlt6:r<w6.heap.size:=(HP.out w6 hw6).lt
     refine ⟨rfl,.inr ⟨rfl,_,⟨set_room p7.box _,?_,p7.rm1,p7.rm2,HA.out,HF1.out,HAC.out⟩,(Kept.mono (hw6.trans' k7) (fun _ _ f=>f.elim)).trans K8 (fun _ _ e=>e),fun k e=>Nat.le_trans hw6.size (hr7.block e).1⟩⟩
     exact ((hr7.kept K8 (fun k e q=>by have:=(hr7.block e).1;omega) (fun k _ e=>by rw [e];exact p7.noti)).zero).mono (fun k _ q=>Nat.le_trans hw6.size q)
    ·obtain rfl:113=E:=HE.out 113 (.inr (.inr (.inl ⟨HA.out,HALL.out,hb.1 rfl,rfl⟩)))
     clear hb CN HE
     go_wp2
     go_ret
     exact ⟨rfl,.inl ⟨by decide,hw6⟩⟩
def hasB (n:Nat) (a:Int):Bool:=decide (0≤a) && decide (a<(n:Int))
theorem hasB_yes {n:Nat} {a:Int} (h:0≤a∧a<(n:Int)):hasB n a=true:=by unfold hasB;simp [h]
theorem hasB_no {n:Nat} {a:Int} (h:¬ (0≤a∧a<(n:Int))):hasB n a=false:=by
 unfold hasB
 rw [Bool.eq_false_iff]
 intro q
 simp at q
 exact h q
set_option maxHeartbeats 1000000 in
theorem rhas_any {w:World} {r n cap:Nat} {ao:Option Addr} (c1:w.cell? ⟨r,1,none⟩=some (.slice ao n cap)) (hn:n≤maxLen) (a:Int) :
  Calls Tryz.prog 52 #[.pointer (some ⟨r,0,none⟩),.int .i64 a] w fun e w' => e=.returned (.bool (hasB n a))∧w' = w:=by
 unfold maxLen at hn
 have HE:Hid (hasB n a=(decide (0≤a) && decide (a<(n:Int)))):=rfl
 generalize hasB n a=R at *
 by_cases h1:0≤a
 ·by_cases h2:a<(n:Int)
  ·have HR:Hid (R=true):=by show _=_;rw [HE.out];simp [h1,h2]
   clear HE
   go_enter Tryz.func52,Tryz.ntmps52
   go_wp2
   go_ret
   exact ⟨ret_bool HR.out.symm,rfl⟩
  ·have HR:Hid (R=false):=by show _=_;rw [HE.out];simp [h2]
   clear HE
   go_enter Tryz.func52,Tryz.ntmps52
   go_wp2
   go_ret
   exact ⟨ret_bool HR.out.symm,rfl⟩
 ·have HR:Hid (R=false):=by show _=_;rw [HE.out];simp [h1]
  clear HE
  go_enter Tryz.func52,Tryz.ntmps52
  go_wp2
  go_ret
  exact ⟨ret_bool HR.out.symm,rfl⟩
set_option maxHeartbeats 1000000 in
theorem rres_no {w:World} {r n cap:Nat} {ao:Option Addr} (c1:w.cell? ⟨r,1,none⟩=some (.slice ao n cap)) (hn:n≤maxLen) (a:Int) (ha:¬ (0≤a∧a<(n:Int))) :
  Calls Tryz.prog 56 #[.pointer (some ⟨r,0,none⟩),.int .i64 a] w fun e w' => e=.returned (.tuple #[.int .i64 0,.int .i64 112])∧w' = w:=by
 have C:=rhas_any c1 hn a
 rw [hasB_no ha] at C
 clear ha
 go_enter Tryz.func56,Tryz.ntmps56
 go_wp2_with (first | (go_at_call 52;refine C.mono ?_;rintro e w' ⟨rfl,h'⟩;have h' := h'.symm;subst h'))
 go_ret2
 exact ⟨rfl,rfl⟩
set_option maxHeartbeats 2000000 in
theorem rres_yes {w:World} {r cap:Nat} {ao:Option Addr} {l:List Nd} (c1:w.cell? ⟨r,1,none⟩=some (.slice ao l.length cap)) (hs:NsW w ao l) (hn:l.length≤maxLen) (hin:InL l) (hac:Ac l) (i:Nat) (hi:i<l.length) :
  Calls Tryz.prog 56 #[.pointer (some ⟨r,0,none⟩),.int .i64 (i:Int)] w fun e w' => ∃ b:Nat,e=.returned (.tuple #[.int .i64 (b:Int),.int .i64 0])∧Res l i b∧w' = w:=by
 have C:=rhas_any c1 hn (i:Int)
 rw [hasB_yes (by omega)] at C
 obtain ⟨rk,hr⟩:=hac
 have HR:Hid (∀ i j,Ed l i j→rk j<rk i):=hr
 have HI:Hid (InL l):=hin
 rcases hs with e | ⟨nb,noff,rfl,hnb,hc⟩
 ·subst e;simp at hi
 have HE:Hid (∀ j (hj:j<l.length),∃ xo xc,w.cell? ⟨nb,noff+j * 5,none⟩=some (.int .i64 l[j].1)∧w.cell? ⟨nb,noff+j * 5+1,none⟩=some (.slice xo l[j].2.1.length xc)∧w.cell? ⟨nb,noff+j * 5+2,none⟩=some (.int .i64 l[j].2.2.1)∧w.cell? ⟨nb,noff+j * 5+3,none⟩=some (.bool l[j].2.2.2.1)∧w.cell? ⟨nb,noff+j * 5+4,none⟩=some (.int .i64 l[j].2.2.2.2)∧Arg w xo l[j].2.1 xc):=hc
 unfold maxLen at hn
 clear hr hin hc hnb
 go_enter Tryz.func56,Tryz.ntmps56
 go_upto_region 3 with (first | (go_at_call 52;refine C.mono ?_;rintro e w' ⟨rfl,h'⟩;have h' := h'.symm;subst h'))
 clear C
 go_loop [1] (fun v=>∃ a:Nat,a<l.length∧v=.int .i64 (a:Int)∧Hid (∃ k,Ind l k i a)) (fun v=>rk (intOf v).toNat)
 case atStart=>exact ⟨i,hi,rfl,0,rfl⟩
 case round=>
  obtain ⟨a,ha,rfl,hk⟩:=hrel
  obtain ⟨xo,xc,n0,n1,n2,n3,n4, -⟩:=HE.out a ha
  have i1:(0:Int)≤(a:Int):=by omega
  have i2:(a:Int)<(l.length:Int):=by omega
  cases hp:l[a].2.2.2.1
  ·rw [hp] at n3
   have HP:Hid (l[a].2.2.2.1=false):=hp
   clear hp n0 n1 n2 n4
   go_wp2
   go_ret2
   exact ⟨a,rfl,⟨hk.out,ha,HP.out⟩,rfl⟩
  ·rw [hp] at n3
   have HP:Hid (l[a].2.2.2.1=true):=hp
   obtain ⟨m1,m2⟩:=HI.out a ha l[a].2.2.2.2 (by unfold downL;rw [hp];simp)
   obtain ⟨t,ht⟩:∃ t:Nat,l[a].2.2.2.2=(t:Int):=⟨l[a].2.2.2.2.toNat,by omega⟩
   have HT:Hid (l[a].2.2.2.2=(t:Int)):=ht
   rw [ht] at n4
   have hlt:t<l.length:=by omega
   clear hp n0 n1 n2 m1 m2 ht
   go_wp2
   go_round
   case rel=>exact ⟨t,hlt,rfl,by
    obtain ⟨k,hk⟩:=hk.out
    have:=hk.snoc ha HP.out
    rw [HT.out] at this
    exact ⟨k+1,by simpa using this⟩⟩
   case measure=>
    have:=HR.out a t (by have:=ed_ind ha HP.out (by rw [HT.out];omega);rw [HT.out] at this;simpa using this)
    simpa [intOf] using this
structure RdH (w:World) (r:Nat) (N:List Nd) (ao:Option Addr) (cap:Nat):Prop where
 c1:w.cell? ⟨r,1,none⟩=some (.slice ao N.length cap)
 ns:NsW w ao N
 le:N.length≤4000
 inl:InL N
 ac:Ac N
 may:∀ x∈N,mayB N.length x=true
theorem RdH.same {w w' : World} {r:Nat} {N:List Nd} {ao:Option Addr} {cap:Nat} (q:RdH w r N ao cap) (hk:Same0 w w'):RdH w' r N ao cap:=
 ⟨(hk.cell (p:=⟨r,1,none⟩) (World.block_lt_of_cell? _ _ q.c1) (fun f=>f)).trans q.c1,q.ns.same hk,q.le,q.inl,q.ac,q.may⟩
theorem RdH.node {w:World} {r:Nat} {N:List Nd} {ao:Option Addr} {cap:Nat} (q:RdH w r N ao cap) {b:Nat} (hb:b<N.length):∃ nb noff xo xc,ao=some ⟨nb,noff,none⟩∧∀ ww,Same0 w ww→(ww.cell? ⟨nb,noff+b * 5,none⟩=some (.int .i64 N[b].1)∧ww.cell? ⟨nb,noff+b * 5+1,none⟩=some (.slice xo N[b].2.1.length xc)∧ww.cell? ⟨nb,noff+b * 5+2,none⟩=some (.int .i64 N[b].2.2.1)∧ww.cell? ⟨nb,noff+b * 5+3,none⟩=some (.bool N[b].2.2.2.1)∧ww.cell? ⟨nb,noff+b * 5+4,none⟩=some (.int .i64 N[b].2.2.2.2))∧IntsAt ww xo N[b].2.1:=by
 obtain ⟨nb,noff,e,hnb,hc⟩:=q.ns.resolve_left (fun e=>by rw [e] at hb;simp at hb)
 obtain ⟨xo,xc,d0,d1,d2,d3,d4,d5⟩:=hc b hb
 have t:∀ ww,Same0 w ww→∀ o,ww.cell? ⟨nb,o,none⟩=w.cell? ⟨nb,o,none⟩:=fun ww hk o=>hk.cell (p:=⟨nb,o,none⟩) hnb (fun f=>f)
 exact ⟨nb,noff,xo,xc,e,fun ww hk=>⟨⟨(t ww hk _).trans d0,(t ww hk _).trans d1,(t ww hk _).trans d2,(t ww hk _).trans d3,(t ww hk _).trans d4⟩,d5.at'.same hk⟩⟩
set_option maxHeartbeats 2000000 in
theorem rhead_no {w:World} {r:Nat} {N:List Nd} {ao:Option Addr} {cap:Nat} (q:RdH w r N ao cap) (a:Int) (ha:¬ (0≤a∧a<(N.length:Int))):Calls Tryz.prog 22 #[.pointer (some ⟨r,0,none⟩),.int .i64 a] w fun e w' => e=.returned (.tuple #[.int .i64 (-1),.bool false])∧Same0 w w' := by
 have C:=rres_no q.c1 (by have:=q.le;unfold maxLen;omega) a ha
 clear q ha
 go_enter Tryz.func22,Tryz.ntmps22
 go_wp2_with (first | (go_at_call 56;refine C.mono ?_;rintro e w1 ⟨rfl,h1⟩;have h1:=h1.symm;subst h1))
 go_ret2
 exact ⟨rfl,Kept.refl _ _⟩
set_option maxHeartbeats 2000000 in
theorem rhead_yes {w:World} {r:Nat} {N:List Nd} {ao:Option Addr} {cap:Nat} (q:RdH w r N ao cap) (i:Nat) (hi:i<N.length):Calls Tryz.prog 22 #[.pointer (some ⟨r,0,none⟩),.int .i64 (i:Int)] w fun e w' => ∃ (b:Nat) (hb:b<N.length),e=.returned (.tuple #[.int .i64 N[b].1,.bool (decide (0<N[b].2.2.1))])∧Res N i b∧Same0 w w' := by
 have C:=rres_yes q.c1 q.ns (by have:=q.le;unfold maxLen;omega) q.inl q.ac i hi
 have HN:Hid (∀ b (hb:b<N.length),∃ nb noff xo xc,ao=some ⟨nb,noff,none⟩∧∀ ww,Same0 w ww→(ww.cell? ⟨nb,noff+b * 5,none⟩=some (.int .i64 N[b].1)∧ww.cell? ⟨nb,noff+b * 5+1,none⟩=some (.slice xo N[b].2.1.length xc)∧ww.cell? ⟨nb,noff+b * 5+2,none⟩=some (.int .i64 N[b].2.2.1)∧ww.cell? ⟨nb,noff+b * 5+3,none⟩=some (.bool N[b].2.2.2.1)∧ww.cell? ⟨nb,noff+b * 5+4,none⟩=some (.int .i64 N[b].2.2.2.2))∧IntsAt ww xo N[b].2.1):=fun b hb=>q.node hb
 have c1:=q.c1
 have hle:=q.le
 clear q hi
 go_enter Tryz.func22,Tryz.ntmps22
 go_upto_region 4 with (first | (go_at_call 56;refine C.mono ?_;rintro e w1 ⟨b,rfl,hr,h1⟩;have h1:=h1.symm;subst h1))
 obtain ⟨hb, -⟩:=hr.2
 obtain ⟨nb,noff,xo,xc,rfl,hcell⟩:=HN.out b hb
 obtain ⟨⟨d0,d1,d2,d3,d4⟩, -⟩:=hcell w (Kept.refl _ _)
 have i1:(0:Int)≤(b:Int):=by omega
 have i2:(b:Int)<(N.length:Int):=by omega
 have FIN:Hid (∀ ww,Same0 w ww→∃ (b' : Nat) (hb' : b' < N.length),Ending.returned (.tuple #[.int .i64 N[b].1,.bool (decide (0<N[b].2.2.1))])=.returned (.tuple #[.int .i64 N[b'].1,.bool (decide (0<N[b'].2.2.1))])∧Res N i b' ∧ Same0 w ww):=fun ww hk=>⟨b,hb,rfl,hr,hk⟩
 clear C HN hcell hr
 go_quiet (fail)
 go_wp2
 go_ret2
 exact FIN.out _ ((Kept.refl _ _).drewN _)
set_option maxHeartbeats 4000000 in
theorem rleads_one {w:World} {r:Nat} {N:List Nd} {ao:Option Addr} {cap:Nat} (q:RdH w r N ao cap) (a n:Int) {yo:Option Addr} (hy:IntsAt w yo [n]):Calls Tryz.prog 53 #[.pointer (some ⟨r,0,none⟩),.int .i64 a,.slice yo 1 1] w fun e w' => ∃ y,e=.returned (.int .i64 y)∧ArR N a n y∧Same0 w w' := by
 have hle:=q.le
 by_cases ha:0≤a∧a<(N.length:Int)
 ·obtain ⟨i,rfl⟩:∃ i:Nat,a=(i:Int):=⟨a.toNat,by omega⟩
  have hi:i<N.length:=by omega
  have C:=rres_yes q.c1 q.ns (by unfold maxLen;omega) q.inl q.ac i hi
  have c1:=q.c1
  have HQ:Hid (∀ ww,Same0 w ww→RdH ww r N ao cap):=fun ww hk=>q.same hk
  obtain ⟨yb,yoff,rfl,hyb,hyc⟩:=hy.get (i:=0) (by simp)
  simp only [List.getElem_cons_zero,Nat.add_zero] at hyc
  have HY:Hid (∀ ww,Same0 w ww→ww.cell? ⟨yb,yoff,none⟩=some (.int .i64 n)):=fun ww hk=>(hk.cell (p:=⟨yb,yoff,none⟩) hyb (fun f=>f)).trans hyc
  have q0:Hid (RdH w r N ao cap):=q
  clear q hy ha hi
  go_enter Tryz.func53,Tryz.ntmps53
  go_upto_region 4 with (first | (go_at_call 56;refine C.mono ?_;rintro e w1 ⟨b,rfl,hr,h1⟩;have h1:=h1.symm;subst h1))
  obtain ⟨hb,hbp⟩:=hr.2
  have HR:Hid (Res N i b):=hr
  have HBP:Hid (N[b].2.2.2.1=false):=hbp
  clear C hr hbp
  go_wp2_with fail
  go_loopw [1,8] (fun s1 s8 wr=>(s8=.int .i64 0∧s1=.int .i64 (b:Int)∧wr=w)∨(s8=.int .i64 1∧∃ c:Int,s1=.int .i64 c∧Hid (ArR N (i:Int) n c)∧Same0 w wr)) (fun _ s8 _=>1-(intOf s8).toNat)
  case atStart=>exact .inl ⟨rfl,rfl,rfl⟩
  case round=>
   rcases hrel with ⟨rfl,rfl,rfl⟩ | ⟨rfl,c,rfl,hA,hw⟩
   ·obtain ⟨nb,noff,xo,xc,rfl,hcell⟩:=q0.out.node hb
    obtain ⟨⟨d0,d1,d2,d3,d4⟩,dI⟩:=hcell wr (Kept.refl _ _)
    have i1:(0:Int)≤(b:Int):=by omega
    have i2:(b:Int)<(N.length:Int):=by omega
    go_upto_region 8 with fail
    obtain ⟨X1,hX1⟩:∃ X1,X1=wr.alloc (.cells #[.int .i64 N[b].1,.slice xo N[b].2.1.length xc,.int .i64 N[b].2.2.1,.bool N[b].2.2.2.1,.int .i64 N[b].2.2.2.2] 86):=⟨_,rfl⟩
    rw [← hX1]
    have kx:Same0 wr X1:=by rw [hX1];exact (Kept.refl _ _).alloc _
    have x1:X1.cell? ⟨wr.heap.size,1,none⟩=some (.slice xo N[b].2.1.length xc):=by rw [hX1];exact cellAt (heap_alloc_new _ _) 1
    have y1:=HY.out X1 kx
    have hlen:N[b].2.1.length≤6:=(may_facts (q0.out.may _ (List.getElem_mem hb))).2.1
    have NO:Hid (¬ (0≤n∧n<(N[b].2.1.length:Int))→ArR N (i:Int) n (-1)):=fun hn=>.inr ⟨rfl,fun ⟨i', b', hb', e1,e2,e3,e4⟩=>by
     obtain rfl:i=i' := by omega
     obtain rfl:=HR.out.uniq e2
     exact hn ⟨e3,e4⟩⟩
    have KF:Hid (∀ m,Same0 wr (X1.drewN m)):=fun m=>kx.trans' ((Kept.refl _ _).drewN m)
    have hall:=(may_facts (q0.out.may _ (List.getElem_mem hb))).2.2.2.2.1
    have YES:Hid (∀ (m c:Nat) (hm:m<N[b].2.1.length),n=(m:Int)→Res N N[b].2.1[m].toNat c→ArR N (i:Int) n (c:Int)):=fun m c hm hn hc=>.inl ⟨i,b,c,hb,by rw [hn];simpa using hm,rfl,HR.out,by omega,by subst hn;simpa using hc,rfl⟩
    have HCR:Hid (∀ ww (j:Nat),Same0 wr ww→j<N.length→Calls Tryz.prog 56 #[.pointer (some ⟨r,0,none⟩),.int .i64 (j:Int)] ww fun e w' => ∃ c:Nat,e=.returned (.tuple #[.int .i64 (c:Int),.int .i64 0])∧Res N j c∧w' = ww):=fun ww j hk hj=>rres_yes (q0.out.same hk).c1 (q0.out.same hk).ns (by unfold maxLen;omega) q0.out.inl q0.out.ac j hj
    have HALL:Hid (∀ z∈N[b].2.1,0≤z∧z<(N.length:Int)):=hall
    have dX:Hid (∀ ww,Same0 wr ww→IntsAt ww xo N[b].2.1):=fun ww hk=>(hcell ww hk).2
    clear hX1 d0 d1 d2 d3 d4 dI hcell hall hyc hyb c1
    by_cases hn0:n<0
    ·have H:=NO.out (by omega)
     go_quiet (fail)
     go_wp2
     go_ret
     exact ⟨-1,rfl,H,KF.out _⟩
    ·by_cases hn1:(N[b].2.1.length:Int)≤n
     ·have H:=NO.out (by omega)
      go_quiet (fail)
      go_wp2
      go_ret
      exact ⟨-1,rfl,H,KF.out _⟩
     ·obtain ⟨m,rfl⟩:∃ m:Nat,n=(m:Int):=⟨n.toNat,by omega⟩
      have hm:m<N[b].2.1.length:=by omega
      have hz:=HALL.out _ (List.getElem_mem hm)
      obtain ⟨jj,ej⟩:∃ jj:Nat,N[b].2.1[m]=(jj:Int):=⟨N[b].2.1[m].toNat,by omega⟩
      obtain ⟨xb,xoff,rfl,hxb,hxc⟩:=(dX.out X1 kx).get hm
      rw [ej] at hxc
      have YY:Hid (∀ c:Nat,Res N jj c→ArR N (i:Int) (m:Int) (c:Int)):=fun c hc=>YES.out m c hm rfl (by rw [ej];simpa using hc)
      have i3:(0:Int)≤(m:Int):=by omega
      have i4:(m:Int)<(N[b].2.1.length:Int):=by omega
      have hjj:jj<N.length:=by omega
      clear hz ej YES HALL dX NO
      go_quiet (fail)
      have K2:Hid (Same0 wr (X1.drewN nq).drew):=Same0.trans' (KF.out nq) ((Kept.refl _ _).drew)
      have S0:(X1.drewN nq).drew.cell? ⟨wr.heap.size,1,none⟩=some (.slice (some ⟨xb,xoff,none⟩) N[b].2.1.length xc)∧(X1.drewN nq).drew.cell? ⟨yb,yoff,none⟩=some (.int .i64 (m:Int))∧(X1.drewN nq).drew.cell? ⟨xb,xoff+m,none⟩=some (.int .i64 (jj:Int)):=⟨x1,y1,hxc⟩
      have S1:(X1.drewN (nq+1)).cell? ⟨wr.heap.size,1,none⟩=some (.slice (some ⟨xb,xoff,none⟩) N[b].2.1.length xc)∧(X1.drewN (nq+1)).cell? ⟨yb,yoff,none⟩=some (.int .i64 (m:Int))∧(X1.drewN (nq+1)).cell? ⟨xb,xoff+m,none⟩=some (.int .i64 (jj:Int)):=⟨x1,y1,hxc⟩
      have K3:Hid (Same0 wr (X1.drewN (nq+1))):=KF.out (nq+1)
      have CR:=HCR.out (X1.drewN nq).drew jj K2.out hjj
      go_upto_region 10 with fail
      go_region_held3 (fun ww=>ww.cell? ⟨wr.heap.size,1,none⟩=some (.slice (some ⟨xb,xoff,none⟩) N[b].2.1.length xc)∧ww.cell? ⟨yb,yoff,none⟩=some (.int .i64 (m:Int))∧ww.cell? ⟨xb,xoff+m,none⟩=some (.int .i64 (jj:Int))) (with_reducible first | exact S0 | exact S1) (first | (go_at_call 56;refine CR.mono ?_;rintro e w2 ⟨c,rfl,hc,h2⟩;have h2:=h2.symm;subst h2))
      go_wp2_with fail
      first
       | exact ⟨.inr ⟨rfl,_,rfl,YY.out _ hc,K3.out⟩,by simp [intOf]⟩
       | exact ⟨.inr ⟨rfl,_,rfl,YY.out _ hc,K2.out⟩,by simp [intOf]⟩
       | (refine ⟨.inr ⟨by go_num,_,rfl,YY.out _ hc,K2.out⟩,by simp [intOf]⟩)
   ·go_wp2
    go_ret
    exact ⟨c,rfl,hA.out,hw⟩
 ·have C:=rres_no q.c1 (by unfold maxLen;omega) a ha
  have H:Hid (ArR N a n (-1)):=.inr ⟨rfl,fun ⟨i,b,hb,e1,e2,_⟩=>ha (by have:=e2.lt.1;omega)⟩
  clear q ha hy
  go_enter Tryz.func53,Tryz.ntmps53
  go_wp2_with (first | (go_at_call 56;refine C.mono ?_;rintro e w1 ⟨rfl,h1⟩;have h1:=h1.symm;subst h1))
  go_ret
  exact ⟨-1,rfl,H.out,Kept.refl _ _⟩
end Go.Proofs.YtpimndkhoalaeaaGreat
