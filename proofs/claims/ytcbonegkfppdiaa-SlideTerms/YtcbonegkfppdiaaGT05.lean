import Derived.Test.YtcbonegkfppdiaaGT04
import Derived.Test.YtcbonegkfppdiaaGT03
namespace Go.Proofs.Ytcbonegkfppdiaa
set_option maxRecDepth 100000
set_option linter.unusedVariables false
open Go.RowKit
attribute [local go_sem ↓] Go.wp_at_zero Go.wp_at_succ
theorem iv_set (xs:List Int) (k:Nat) (z:Int):iv (xs.set k z)=(iv xs).set k (.int .i64 z):=by simp [iv,List.map_set]
theorem made_ints (n:Nat):(madeCells (Value.int .i64 0).cells (n * 1)).toList=iv (List.replicate n 0):=by
 rw [Nat.mul_one,show (Value.int .i64 0).cells = #[Value.int .i64 0] from rfl,toList_madeCells_one]
 simp [iv]
theorem row_int {w:World} {base g N:Nat} {m:List Int} (h:w.ownsRow base 3 1 (.slice (some ⟨g,0,none⟩) N N) N (iv m)) {k:Nat} (hk:k<N):∃ z,m[k]? = some z∧w.cell? ⟨g,k,none⟩=some (.int .i64 z)∧w.frozen? ⟨g,k,none⟩=false:=by
 have hl:m.length=N:=by have:=h.1;simp [iv] at this;omega
 refine ⟨m[k]'(by omega),by simp [hl,hk],?_,h.frozenAt k⟩
 rw [h.cellAt k (by omega)]
 simp [iv,hl,hk]
abbrev LdAt (wr:World) (lb N:Nat) (lead:List Int):Prop:=wr.ownsRow lb 3 1 (.slice (some ⟨lb,0,none⟩) N N) N (iv lead)
theorem LdAt.put {w wr:World} {lb N:Nat} {lead:List Int} (h:LdAt wr lb N lead) (hw:Same0 w wr) (hlo:w.heap.size≤lb) (b:Nat) (z:Int):LdAt (wr.setCell ⟨lb,b,none⟩ (.int .i64 z)) lb N (lead.set b z)∧Same0 w (wr.setCell ⟨lb,b,none⟩ (.int .i64 z))∧Kept (fun k=>k=lb) wr (wr.setCell ⟨lb,b,none⟩ (.int .i64 z)):=
 ⟨by unfold LdAt;rw [iv_set];exact (h.stored b _).1,hw.own hlo _,Kept.setCell (S:=fun k=>k=lb) (Kept.refl _ _) (p:=⟨lb,b,none⟩) (fun _=>rfl) _⟩
def DAt (wr:World) (lb:Nat) (bo:Option Addr) (D:List Int):Prop:=IntsAt wr bo D∧∀ x,bo=some x→D≠[]→x.block<wr.heap.size∧x.block≠lb
set_option maxHeartbeats 4000000 in
theorem ringed_any {w:World} {ao:Option Addr} {ac:Nat} {l:List Nd} (h:NsW w ao l) (hin:InL l) (few:∀ x∈l,x.2.1.length≤6) (hN:l.length≤4000) :
  Calls Try.prog 75 #[.slice ao l.length ac] w fun e w' => RingQ l w e w' := by
 obtain ⟨i,hi,hz0,hz1,hz2⟩:=info_parts info_intT
 have HL:Hid (∀ ww,Same0 w ww→∀ j (hj:j<l.length),∃ nb noff xo xc,ao=some ⟨nb,noff,none⟩∧ww.cell? ⟨nb,noff+j * 5,none⟩=some (.int .i64 l[j].1)∧ww.cell? ⟨nb,noff+j * 5+1,none⟩=some (.slice xo l[j].2.1.length xc)∧ww.cell? ⟨nb,noff+j * 5+2,none⟩=some (.int .i64 l[j].2.2.1)∧ww.cell? ⟨nb,noff+j * 5+3,none⟩=some (.bool l[j].2.2.2.1)∧ww.cell? ⟨nb,noff+j * 5+4,none⟩=some (.int .i64 l[j].2.2.2.2)∧Arg ww xo l[j].2.1 xc∧∀ x,xo=some x→l[j].2.1≠[]→x.block<w.heap.size):=fun ww hk j hj=>by
  rcases h with e | ⟨nb,noff,e,hnb,hn⟩
  ·rw [e] at hj;simp at hj
  ·obtain ⟨xo,xc,n0,n1,n2,n3,n4,n5⟩:=hn j hj
   have hlt:∀ x,xo=some x→l[j].2.1≠[]→x.block<w.heap.size:=fun x q h0=>n5.at'.lt h0 q
   have t:∀ o,ww.cell? ⟨nb,o,none⟩=w.cell? ⟨nb,o,none⟩:=fun o=>hk.cell (p:=⟨nb,o,none⟩) hnb (fun f=>f)
   exact ⟨nb,noff,xo,xc,e,(t _).trans n0,(t _).trans n1,(t _).trans n2,(t _).trans n3,(t _).trans n4,n5.onto hk,hlt⟩
 have HI:Hid (InL l):=hin
 have HW:Hid (∀ x∈l,x.2.1.length≤6):=few
 have HDD:Hid (∀ j (hj:j<l.length),dnL l j=downL l[j]):=fun j hj=>dnL_at hj
 obtain ⟨N,hNe⟩:∃ N,N=l.length:=⟨_,rfl⟩
 have HNE:Hid (N=l.length):=hNe
 have HL0:Hid (Ld l 0 0 (List.replicate N 0)):=by rw [hNe];exact Ld.start l
 rw [← hNe] at hN ⊢
 have i5:(0:Int)≤(N:Int):=by omega
 have i6:(N:Int)≤4000:=by omega
 clear h hin few hNe
 go_enter Try.func75,Try.ntmps75
 go_upto_region 2 with (first | (at_make;refine wpList_make_full _ rfl _ _ 31 rfl w.heap.size 3 i _ 1 Try.underlying31 hi hz0 hz1 _ _ _ _ N rfl rfl rfl rfl (by rw [hz2];omega) (by unfold maxLen;omega) (Nat.le_refl _) ?_;intro w1 hown hgrow))
 rw [made_ints] at hown
 have K1:Same0 w w1:=Same0.grown (Kept.refl _ w) hgrow
 obtain ⟨lb,hlb⟩:∃ lb,lb=w.heap.size:=⟨_,rfl⟩
 have hlo:w.heap.size≤lb:=by omega
 have hlb1:lb<w1.heap.size:=by rw [hlb];exact (hown.lt w.heap.size rfl).2
 rw [← hlb] at hown ⊢
 have HR1:Hid (LdAt w1 lb N (List.replicate N 0)):=hown
 clear hlb hown hgrow hz0 hz1 hz2 hi
 go_upto_region 3 with fail
 go_loopw [19] (fun i wr=>∃ (k:Nat) (lead:List Int),i=.int .i64 (k:Int)∧k≤N∧Hid (LdAt wr lb N lead)∧Hid (Ld l k 0 lead)∧Same0 w wr∧lb<wr.heap.size) (fun i _=>N-(intOf i).toNat)
 case atStart=>exact ⟨0,_,rfl,Nat.zero_le _,HR1,HL0,K1,hlb1⟩
 case round=>
  clear K1 HR1 HL0 hlb1
  obtain ⟨k,lead,rfl,hk,HR,HD,hw,hlb1⟩:=hrel
  by_cases hlt:k<N
  ·have hkl:k<l.length:=by rw [← HNE.out];exact hlt
   have j1:(k:Int)<(N:Int):=by omega
   have j2:(0:Int)≤(k:Int):=by omega
   obtain ⟨nb,noff,xo,xc,rfl,n0,n1,n2,n3,n4,n5,n6⟩:=HL.out wr hw k hkl
   have kb:Same0 wr (wr.alloc (.cells #[.int .i64 l[k].1,.slice xo l[k].2.1.length xc,.int .i64 l[k].2.2.1,.bool l[k].2.2.2.1,.int .i64 l[k].2.2.2.2] 47)):=(Kept.refl _ _).alloc _
   have CN:=next_any (n5.onto kb)
   have HDB:Hid (∀ z∈downL l[k],0≤z∧z<(l.length:Int)):=HI.out k hkl
   have dl:(downL l[k]).length≤1000:=by have:=HW.out _ (List.getElem_mem hkl);unfold downL;split <;> (simp;try omega)
   have HDE:Hid (dnL l k=downL l[k]):=HDD.out k hkl
   have HKB:Hid (Same0 wr (wr.alloc (.cells #[.int .i64 l[k].1,.slice xo l[k].2.1.length xc,.int .i64 l[k].2.2.1,.bool l[k].2.2.2.1,.int .i64 l[k].2.2.2.2] 47))):=kb
   have HN6:Hid (∀ x,xo=some x→l[k].2.1≠[]→x.block<w.heap.size):=n6
   generalize downL l[k]=D at *
   clear n5 kb n6
   go_upto_region 6 with (first | (go_at_call 81;refine CN.mono ?_;rintro e w3 ⟨bo,bc,rfl,hD,hbo,k3⟩))
   have hk3:=HKB.out.trans' k3
   have hw3:=hw.trans' hk3
   have HR3:Hid (LdAt w3 lb N lead):=hk3.row HR.out (fun _ _ f=>f)
   have HDA:Hid (DAt w3 lb bo D):=⟨hD,fun x e h0=>by
    have h1:=hk3.size
    have h2:=HKB.out.size
    have h3:=hw.size
    rcases hbo x e with ⟨q,q'⟩ | ⟨q1,q2⟩
    ·have:=HN6.out x q (by rw [← q'];exact h0);exact ⟨by omega,by omega⟩
    ·exact ⟨q2,by omega⟩⟩
   have hlb3:lb<w3.heap.size:=Nat.lt_of_lt_of_le hlb1 hk3.size
   clear CN n0 n1 n2 n3 n4 hD hbo k3 hk3
   go_loopw [26] (fun c wr2=>∃ (q:Nat) (lead' : List Int),c=.int .i64 (q:Int)∧q≤D.length∧Hid (LdAt wr2 lb N lead')∧Hid (Ld l k q lead')∧Hid (DAt wr2 lb bo D)∧Same0 w wr2∧lb<wr2.heap.size) (fun c _=>D.length-(intOf c).toNat)
   case atStart=>exact ⟨0,lead,rfl,Nat.zero_le _,HR3,HD,HDA,hw3,hlb3⟩
   case round=>
    clear HR3 HDA hw3 hlb3 HR HD hw hlb1
    obtain ⟨q,lead', rfl,hq,HR', HD', HA', hw', hlb'⟩:=hrel
    by_cases hql:q<D.length
    ·have q0:(0:Int)≤(q:Int):=by omega
     have q1:(q:Int)<(D.length:Int):=by omega
     have hD0:D≠[]:=fun q=>by rw [q] at hql;simp at hql
     obtain ⟨db,doff,rfl, -,cD⟩:=HA'.out.1.get hql
     have hz:=HDB.out _ (List.getElem_mem hql)
     obtain ⟨b,hb⟩:∃ b:Nat,D[q]=(b:Int):=⟨D[q].toNat,by omega⟩
     have hbl:b<l.length:=by omega
     have hbN:b<N:=by rw [HNE.out];exact hbl
     have q2:(0:Int)≤(b:Int):=by omega
     have q3:(b:Int)<(N:Int):=by omega
     have HD1:Hid (∃ v:Int,lead'[b]? = some v∧0≤v∧Ld l k (q+1) (lead'.set b (v+1))):=HD'.out.one (by rw [HDE.out];exact hql) (by simp only [HDE.out];exact hb) hbl
     have hbd:=HD'.out.bound HW.out (Nat.le_of_lt hkl) b
     obtain ⟨v,m0,m1,m2⟩:=row_int HR'.out hbN
     have hv6:=hbd v m0
     obtain ⟨v', e1,e2,e3⟩:=HD1.out
     rw [m0] at e1
     cases e1
     have HLN:Hid (Ld l k (q+1) (lead'.set b (v+1))):=e3
     obtain ⟨P1,P2,P3⟩:=HR'.out.put hw' hlo b (v+1)
     have HP1:Hid (LdAt (wr.setCell ⟨lb,b,none⟩ (.int .i64 (v+1))) lb N (lead'.set b (v+1))):=P1
     have HPA:Hid (DAt (wr.setCell ⟨lb,b,none⟩ (.int .i64 (v+1))) lb (some ⟨db,doff,none⟩) D):=⟨HA'.out.1.kept P3 (fun x e t=>(HA'.out.2 x e hD0).2 t),fun x e h0=>⟨Nat.lt_of_lt_of_le (HA'.out.2 x e h0).1 P3.size,(HA'.out.2 x e h0).2⟩⟩
     have hlb4:lb<(wr.setCell ⟨lb,b,none⟩ (.int .i64 (v+1))).heap.size:=Nat.lt_of_lt_of_le hlb' P3.size
     have v6:v≤24006:=by rw [← HNE.out] at hv6;omega
     rw [hb] at cD
     clear hb hz HD1 hbd m0 e3 P1 P3 hv6 hD0
     go_wp2
     go_roundw
     case rel=>exact ⟨q+1,_,by go_num,by omega,HP1,HLN,HPA,P2,hlb4⟩
     case measure=>simp [intOf];omega
    ·obtain rfl:q=D.length:=by omega
     have HLN:Hid (Ld l (k+1) 0 lead'):=Ld.next (by rw [HDE.out];exact HD'.out)
     go_wp2
     go_roundw
     case rel=>exact ⟨k+1,lead', by go_num,by omega,HR', HLN,hw', hlb'⟩
     case measure=>simp [intOf];omega
  ·obtain rfl:N=k:=by omega
   have HLD:Hid (Ld l l.length 0 lead):=by have:=HD.out;rw [HNE.out] at this;exact this
   have HBD:Hid (∀ (b:Nat) (v:Int),lead[b]? = some v→0≤v∧v≤24006):=fun b v hv=>by
    have h1:=HLD.out.bound HW.out (Nat.le_refl _) b v hv
    have hb:b<l.length:=by have:=(List.getElem?_eq_some_iff.1 hv).1;rw [HLD.out.1] at this;exact this
    rw [HLD.out.2 b hb] at hv
    cases hv
    have h0:l.length≤4000:=by rw [← HNE.out];exact hN
    exact ⟨by omega,by omega⟩
   clear HD hlt hk
   go_upto_region 13 with fail
   go_loopw [8,40] (fun f i wr2=>∃ (k:Nat) (T:List Nat),i=.int .i64 (k:Int)∧k≤N∧Hid (LdAt wr2 lb N lead)∧Hid (Row (lb+1) wr2 f (ofN T))∧Hid (Zr lead k T)∧Same0 w wr2∧lb<wr2.heap.size) (fun _ i _=>N-(intOf i).toNat)
   case atStart=>exact ⟨0,[],rfl,Nat.zero_le _,HR,World.ownsRow_nil _ _ _ _,Zr.start lead,hw,hlb1⟩
   case round=>
    clear HR hw hlb1
    obtain ⟨k,T,rfl,hk,HR,HT,HZ,hw,hlb1⟩:=hrel
    obtain ⟨to', tc,rfl⟩:=row_shape HT.out
    have hTN:(ofN T).length≤4000:=by rw [ofN_len'];have:=HZ.out.le;omega
    by_cases hlt:k<N
    ·obtain ⟨v,m0,m1,m2⟩:=row_int HR.out hlt
     have j1:(k:Int)<(N:Int):=by omega
     have j2:(0:Int)≤(k:Int):=by omega
     have hkl:k<lead.length:=(List.getElem?_eq_some_iff.1 m0).1
     have HM0:Hid (lead[k]? = some v):=m0
     by_cases hv:v=0
     ·subst hv
      have HZN:Hid (Zr lead (k+1) (T ++ [k])):=HZ.out.yes HM0.out
      have hbs:lb+1≤wr.heap.size:=hlb1
      have hTR:=HT.out
      clear m0 m2
      go_wp2_with (first | (at_builtin;refine wpList_push rfl _ _ 31 rfl Try.underlying31 (lb+1) (ofN T) _ rfl hTR (k:Int) rfl hbs (by omega) ?_;intro g4 cap4 w4 hr4 hk4 hor))
      have HR4:Hid (LdAt w4 lb N lead):=hk4.row HR.out (fun i e t=>by
       have h1:=(HT.out.lt i t).1
       have h2:lb=i:=Option.some.inj e
       omega)
      have HT4:Hid (Row (lb+1) w4 (.slice (some ⟨g4,0,none⟩) ((ofN T).length+1) cap4) (ofN (T ++ [k]))):=by show Row _ _ _ _;rw [ofN_snoc];exact hr4
      have hw4:Same0 w w4:=hw.trans hk4 (fun i hi e=>by have:=(HT.out.lt i e).1;omega)
      have hlb4:lb<w4.heap.size:=Nat.lt_of_lt_of_le hlb1 hk4.size
      clear hr4 hk4 hor hTR
      go_roundw
      case rel=>exact ⟨k+1,T ++ [k],by go_num,by omega,HR4,HT4,HZN,hw4,hlb4⟩
      case measure=>simp [intOf];omega
     ·have HZN:Hid (Zr lead (k+1) T):=HZ.out.no hkl (by have:=HM0.out;rw [List.getElem?_eq_getElem hkl] at this;simp at this;rw [this];exact hv)
      clear m0 m2
      go_wp2
      go_roundw
      case rel=>exact ⟨k+1,T,by go_num,by omega,HR,HT,HZN,hw,hlb1⟩
      case measure=>simp [intOf];omega
    ·have hkN:k=N:=by omega
     have HK0:Hid (Kh l (fun a=>∃ p:Nat,p<0∧T[p]? = some a) (dnL l) lead T):=by
      have hz:=HZ.out
      rw [hkN,HNE.out] at hz
      exact (Kh.start HLD.out hz).more (fun a f=>f.elim) (fun a ⟨p,hp,_⟩=>absurd hp (Nat.not_lt_zero _))
     have j9:¬ (k:Int)<(N:Int):=by omega
     clear hkN HZ HLD
     go_upto_region 19 with fail
     go_loopw [8,11] (fun f i wr2=>∃ (k:Nat) (T:List Nat) (lead:List Int) (R:Nat→List Int),i=.int .i64 (k:Int)∧k≤(ofN T).length∧Hid (LdAt wr2 lb N lead)∧Hid (Row (lb+1) wr2 f (ofN T))∧Hid (Kh l (fun a=>∃ p:Nat,p<k∧T[p]? = some a) R lead T)∧Hid (∀ p a:Nat,p<k→T[p]? = some a→R a=[])∧Hid (∀ (b:Nat) (v:Int),lead[b]? = some v→0≤v∧v≤24006)∧Same0 w wr2∧lb<wr2.heap.size) (fun _ i _=>N-(intOf i).toNat)
     case atStart=>exact ⟨0,T,lead,dnL l,rfl,Nat.zero_le _,HR,HT,HK0,fun p a hp=>absurd hp (Nat.not_lt_zero _),HBD,hw,hlb1⟩
     case round=>
      clear HR HT HK0 HBD hw hlb1 j9 hlt hk hTN
      obtain ⟨k,T,lead,R,rfl,hk,HR,HT,HK,HE,HBD,hw,hlb1⟩:=hrel
      obtain ⟨to', tc,rfl⟩:=row_shape HT.out
      have hTN:(ofN T).length≤N:=by rw [ofN_len', HNE.out];exact HK.out.le
      by_cases hlt:k<(ofN T).length
      ·have j0:(0:Int)≤(k:Int):=by omega
       have j1:(k:Int)<((ofN T).length:Int):=by omega
       have hkT:k<T.length:=by rwa [ofN_len'] at hlt
       obtain ⟨c,hc⟩:∃ c,c=T[k]:=⟨_,rfl⟩
       have hTk:T[k]? = some c:=by rw [hc];simp [hkT]
       have hcl:c<l.length:=HK.out.lt (List.mem_of_getElem? hTk)
       have j2:(0:Int)≤(c:Int):=by omega
       have j3:(c:Int)<(N:Int):=by rw [HNE.out];omega
       have HTK:Hid (T[k]? = some c):=hTk
       have HRC:Hid (R c=dnL l c):=HK.out.rest c hcl (fun ⟨p,hp,he⟩=>HK.out.nd p k c hp he hTk)
       obtain ⟨fo', ac', e,hfi, -, -⟩:=HT.out.ints
       cases e
       obtain ⟨fb,foff,rfl, -,cF⟩:=hfi.get hlt
       rw [ofN_at hlt,← hc] at cF
       obtain ⟨nb,noff,xo,xc,rfl,n0,n1,n2,n3,n4,n5,n6⟩:=HL.out wr hw c hcl
       have CN:=next_any n5
       have HDB:Hid (∀ z∈downL l[c],0≤z∧z<(l.length:Int)):=HI.out c hcl
       have dl:(downL l[c]).length≤1000:=by have:=HW.out _ (List.getElem_mem hcl);unfold downL;split <;> (simp;try omega)
       have HRD:Hid (R c=downL l[c]):=by show _=_;rw [HRC.out];exact HDD.out c hcl
       have HN6:Hid (∀ x,xo=some x→l[c].2.1≠[]→x.block<w.heap.size):=n6
       generalize downL l[c]=D at *
       clear n5 n6 hfi hc hTk HRC
       go_upto_region 22 with (first | (go_at_call 81;refine CN.mono ?_;rintro e w3 ⟨bo,bc,rfl,hD,hbo,k3⟩))
       have hw3:=hw.trans' k3
       have HR3:Hid (LdAt w3 lb N lead):=k3.row HR.out (fun _ _ f=>f)
       have HT3:Hid (Row (lb+1) w3 (.slice (some ⟨fb,foff,none⟩) (ofN T).length tc) (ofN T)):=k3.row HT.out (fun _ _ f=>f)
       have HDA:Hid (DAt w3 lb bo D∧∀ x,bo=some x→D≠[]→(Value.slice (some ⟨fb,foff,none⟩) (ofN T).length tc).ownBlock≠some x.block):=by
        have h1:=k3.size
        have h3:=hw.size
        have hfb:=HT.out.lt fb rfl
        have hne:(Value.slice (some ⟨fb,foff,none⟩) (ofN T).length tc).ownBlock=some fb:=rfl
        refine ⟨⟨hD,fun x e h0=>?_⟩,fun x e h0 t=>?_⟩
        ·rcases hbo x e with ⟨q,q'⟩ | ⟨q1,q2⟩
         ·have:=HN6.out x q (by rw [← q'];exact h0);exact ⟨by omega,by omega⟩
         ·exact ⟨q2,by omega⟩
        ·rw [hne] at t
         have t' : fb=x.block:=Option.some.inj t
         rcases hbo x e with ⟨q,q'⟩ | ⟨q1,q2⟩
         ·have:=HN6.out x q (by rw [← q'];exact h0);omega
         ·omega
       have hlb3:lb<w3.heap.size:=Nat.lt_of_lt_of_le hlb1 k3.size
       have HK3:Hid (Kh l (fun a=>∃ p:Nat,p<k+1∧T[p]? = some a) R lead T):=HK.out.more (fun a ⟨p,hp,he⟩=>⟨p,by omega,he⟩) (fun a ⟨p,hp,he⟩=>List.mem_of_getElem? he)
       clear CN n0 n1 n2 n3 n4 hD hbo k3 cF
       go_loopw [8,67] (fun f c' wr2=>∃ (q:Nat) (T' : List Nat) (lead' : List Int) (R' : Nat→List Int),c' = .int .i64 (q:Int)∧q≤D.length∧Hid (LdAt wr2 lb N lead')∧Hid (Row (lb+1) wr2 f (ofN T'))∧Hid (Kh l (fun a=>∃ p:Nat,p<k+1∧T[p]? = some a) R' lead' T')∧Hid (R' c=D.drop q)∧Hid (∀ p a:Nat,p<k→T[p]? = some a→R' a=[])∧Hid (∀ p:Nat,p<k+1→T'[p]? = T[p]?)∧Hid (∀ (b:Nat) (v:Int),lead'[b]? = some v→0≤v∧v≤24006)∧Hid (DAt wr2 lb bo D∧∀ x,bo=some x→D≠[]→f.ownBlock≠some x.block)∧Same0 w wr2∧lb<wr2.heap.size) (fun _ c' _=>D.length-(intOf c').toNat)
       case atStart=>exact ⟨0,T,lead,R,rfl,Nat.zero_le _,HR3,HT3,HK3,by (show _=_);rw [HRD.out];rfl,HE,fun p _=>rfl,HBD,HDA,hw3,hlb3⟩
       case round=>
        clear HR3 HT3 HK3 HDA hw3 hlb3 HR HT HK HRD HE HBD hw hlb1
        obtain ⟨q,T', lead', R', rfl,hq,HR', HT', HK', HC', HE', HX', HB', HA', hw', hlb'⟩:=hrel
        obtain ⟨vo,vc,rfl⟩:=row_shape HT'.out
        have hTN' : (ofN T').length≤N:=by rw [ofN_len', HNE.out];exact HK'.out.le
        by_cases hql:q<D.length
        ·have q0:(0:Int)≤(q:Int):=by omega
         have q1:(q:Int)<(D.length:Int):=by omega
         have hD0:Hid (D≠[]):=fun q=>by rw [q] at hql;simp at hql
         obtain ⟨db,doff,rfl, -,cD⟩:=HA'.out.1.1.get hql
         have hz:=HDB.out _ (List.getElem_mem hql)
         obtain ⟨b,hb⟩:∃ b:Nat,D[q]=(b:Int):=⟨D[q].toNat,by omega⟩
         have hbl:b<l.length:=by omega
         have hbN:b<N:=by rw [HNE.out];exact hbl
         have q2:(0:Int)≤(b:Int):=by omega
         have q3:(b:Int)<(N:Int):=by omega
         have hPc:∃ p:Nat,p<k+1∧T[p]? = some c:=⟨k,by omega,HTK.out⟩
         have hRq:R' c=(b:Int) :: D.drop (q+1):=by rw [HC'.out,List.drop_eq_getElem_cons hql,hb]
         obtain ⟨v,e1,e2,e3⟩:=HK'.out.strike hPc hRq hbl
         obtain ⟨v', m0,m1,m2⟩:=row_int HR'.out hbN
         rw [e1] at m0
         cases m0
         have hv:=(HB'.out b v e1).2
         have HC4:Hid (lose R' c (D.drop (q+1)) c=D.drop (q+1)):=by show _=_;unfold lose;rw [if_pos rfl]
         have HE4:Hid (∀ p a:Nat,p<k→T[p]? = some a→lose R' c (D.drop (q+1)) a=[]):=fun p a hp he=>by
          have hne:a≠c:=fun e=>by
           subst e
           have h1:=HX'.out p (by omega)
           have h2:=HX'.out k (by omega)
           rw [he] at h1
           rw [HTK.out] at h2
           exact HK'.out.nd p k a hp h1 h2
          unfold lose;rw [if_neg hne];exact HE'.out p a hp he
         have HB4:Hid (∀ (j:Nat) (u:Int),(lead'.set b (v-1))[j]? = some u→0≤u∧u≤24006):=fun j u hu=>by
          rw [List.getElem?_set] at hu
          split at hu
          ·split at hu
           ·cases hu;omega
           ·cases hu
          ·exact HB'.out j u hu
         obtain ⟨P1,P2,P3⟩:=HR'.out.put hw' hlo b (v-1)
         have HP1:Hid (LdAt (wr.setCell ⟨lb,b,none⟩ (.int .i64 (v-1))) lb N (lead'.set b (v-1))):=P1
         have RW:Row (lb+1) (wr.setCell ⟨lb,b,none⟩ (.int .i64 (v-1))) (.slice vo (ofN T').length vc) (ofN T'):=P3.row HT'.out (fun i e t=>by have:=(HT'.out.lt i e).1;omega)
         have HPA:Hid (DAt (wr.setCell ⟨lb,b,none⟩ (.int .i64 (v-1))) lb (some ⟨db,doff,none⟩) D):=⟨HA'.out.1.1.kept P3 (fun x e t=>(HA'.out.1.2 x e hD0.out).2 t),fun x e h0=>⟨Nat.lt_of_lt_of_le (HA'.out.1.2 x e h0).1 P3.size,(HA'.out.1.2 x e h0).2⟩⟩
         have hlb4:lb<(wr.setCell ⟨lb,b,none⟩ (.int .i64 (v-1))).heap.size:=Nat.lt_of_lt_of_le hlb' P3.size
         have esz:(wr.setCell ⟨lb,b,none⟩ (.int .i64 (v-1))).heap.size=wr.heap.size:=by simp [World.setCell]
         have HA2:Hid (∀ x,some (⟨db,doff,none⟩:Addr)=some x→D≠[]→(Value.slice vo (ofN T').length vc).ownBlock≠some x.block):=HA'.out.2
         rw [hb] at cD
         rcases e3 with ⟨e4,e5⟩ | ⟨e4,e5⟩
         ·have HK4:Hid (Kh l (fun a=>∃ p:Nat,p<k+1∧T[p]? = some a) (lose R' c (D.drop (q+1))) (lead'.set b (v-1)) (T' ++ [b])):=e5
          have hbs:lb+1≤(wr.setCell ⟨lb,b,none⟩ (.int .i64 (v-1))).heap.size:=hlb4
          have hv1:v=1:=by omega
          have HX4:Hid (∀ p:Nat,p<k+1→(T' ++ [b])[p]? = T[p]?):=fun p hp=>by
           have h2:=HX'.out k (by omega)
           rw [HTK.out] at h2
           have h3:=(List.getElem?_eq_some_iff.1 h2).1
           rw [List.getElem?_append_left (by omega)];exact HX'.out p hp
          subst hv1
          clear hb hz e1 e2 e4 e5 P1 P3 hRq hPc
          go_wp2_with (first | (at_builtin;refine wpList_pushN rfl _ _ 31 rfl Try.underlying31 (lb+1) (ofN T') _ rfl RW (b:Int) _ esz rfl hbs (by omega) ?_;intro g4 cap4 w4 hr4 hk4 hor))
          have HR4:Hid (LdAt w4 lb N (lead'.set b (1-1))):=hk4.row HP1.out (fun i e t=>by
           have h1:=(RW.lt i t).1
           have h2:lb=i:=Option.some.inj e
           omega)
          have HT4:Hid (Row (lb+1) w4 (.slice (some ⟨g4,0,none⟩) ((ofN T').length+1) cap4) (ofN (T' ++ [b]))):=by show Row _ _ _ _;rw [ofN_snoc];exact hr4
          have hw4:Same0 w w4:=P2.trans hk4 (fun i hi e=>by have:=(RW.lt i e).1;omega)
          have hlb5:lb<w4.heap.size:=Nat.lt_of_lt_of_le hlb4 hk4.size
          have HD4:Hid (DAt w4 lb (some ⟨db,doff,none⟩) D∧∀ x,some (⟨db,doff,none⟩:Addr)=some x→D≠[]→(Value.slice (some ⟨g4,0,none⟩) ((ofN T').length+1) cap4).ownBlock≠some x.block):=by
           refine ⟨⟨HPA.out.1.kept hk4 (fun x e t=>HA2.out x e hD0.out t),fun x e h0=>⟨Nat.lt_of_lt_of_le (HPA.out.2 x e h0).1 hk4.size,(HPA.out.2 x e h0).2⟩⟩,fun x e h0 t=>?_⟩
           cases e
           have t' : g4=db:=by simpa [Value.ownBlock] using t
           rcases hor with q' | q'
           ·rw [t'] at q'; exact HA2.out _ rfl h0 q'
           ·have h9:db<(wr.setCell ⟨lb,b,none⟩ (.int .i64 (1-1))).heap.size:=(HPA.out.2 ⟨db,doff,none⟩ rfl h0).1
            have h10:(wr.setCell ⟨lb,b,none⟩ (.int .i64 (1-1))).heap.size=(wr.setCell ⟨lb,b,none⟩ (.int .i64 0)).heap.size:=rfl
            omega
          clear hr4 hk4 hor RW
          go_roundw
          case rel=>exact ⟨q+1,T' ++ [b],_,_,by go_num,by omega,HR4,HT4,HK4,HC4,HE4,HX4,HB4,HD4,hw4,hlb5⟩
          case measure=>simp [intOf];omega
         ·have HK4:Hid (Kh l (fun a=>∃ p:Nat,p<k+1∧T[p]? = some a) (lose R' c (D.drop (q+1))) (lead'.set b (v-1)) T'):=e5
          have hv1:¬ v-1=0:=by omega
          have HRW:Hid (Row (lb+1) (wr.setCell ⟨lb,b,none⟩ (.int .i64 (v-1))) (.slice vo (ofN T').length vc) (ofN T')):=RW
          have HD4:Hid (DAt (wr.setCell ⟨lb,b,none⟩ (.int .i64 (v-1))) lb (some ⟨db,doff,none⟩) D∧∀ x,some (⟨db,doff,none⟩:Addr)=some x→D≠[]→(Value.slice vo (ofN T').length vc).ownBlock≠some x.block):=⟨HPA.out,HA2.out⟩
          clear hb hz e1 e5 P1 P3 hRq hPc RW
          go_wp2
          go_roundw
          case rel=>exact ⟨q+1,T', _,_,by go_num,by omega,HP1,HRW,HK4,HC4,HE4,HX', HB4,HD4,P2,hlb4⟩
          case measure=>simp [intOf];omega
        ·obtain rfl:q=D.length:=by omega
         have HKN:Hid (Kh l (fun a=>∃ p:Nat,p<k+1∧T'[p]? = some a) R' lead' T'):=HK'.out.more (fun a ⟨p,hp,he⟩=>⟨p,hp,by rw [HX'.out p hp];exact he⟩) (fun a ⟨p,hp,he⟩=>List.mem_of_getElem? he)
         have HEN:Hid (∀ p a:Nat,p<k+1→T'[p]? = some a→R' a=[]):=fun p a hp he=>by
          rw [HX'.out p hp] at he
          by_cases e:p=k
          ·subst e
           rw [HTK.out] at he
           cases he
           rw [HC'.out];simp
          ·exact HE'.out p a (by omega) he
         have hkT' : k+1≤(ofN T').length:=by
          have h2:=HX'.out k (by omega)
          rw [HTK.out] at h2
          have h3:=(List.getElem?_eq_some_iff.1 h2).1
          rw [ofN_len'];omega
         go_wp2
         go_roundw
         case rel=>exact ⟨k+1,T', lead', R', by go_num,hkT', HR', HT', HKN,HEN,HB', hw', hlb'⟩
         case measure=>simp [intOf];omega
      ·obtain rfl:k=(ofN T).length:=by omega
       have HD:Hid (T.length<l.length ↔ ¬ Ac l):=HK.out.done HI.out (fun a ha=>by
        obtain ⟨p,hp,hx⟩:=List.mem_iff_getElem.1 ha
        exact HE.out p a (by rw [ofN_len'];exact hp) (by rw [List.getElem?_eq_getElem hp,hx]))
       have HNT:Hid ((decide ((ofN T).length<N)=true) ↔ ¬ Ac l):=by
        have h1:=HD.out
        have h2:=HNE.out
        have h3:=ofN_len' T
        exact ⟨fun q=>h1.1 (by have:=of_decide_eq_true q;omega),fun q=>decide_eq_true (by have:=h1.2 q;omega)⟩
       clear hlt
       go_wp2
       go_ret
       exact ⟨_,rfl,HNT.out,hw⟩
set_option maxHeartbeats 300000 in
theorem isApp_any {w:World} {x:Nd} {ao:Option Addr} {ac:Nat} (hx:Arg w ao x.2.1 ac) (hp:x.2.2.2.1=false) (n:Nat) :
  Calls Try.prog 83 #[nodeV x ao ac,.int .i64 (n:Int)] w fun e w' => e=.returned (.bool (mayB n x))∧Same0 w w' := by
 obtain ⟨W0,hW0⟩:∃ W0,W0=w.alloc (.cells #[.int .i64 x.1,.slice ao x.2.1.length ac,.int .i64 x.2.2.1,.bool x.2.2.2.1,.int .i64 x.2.2.2.2] 47):=⟨_,rfl⟩
 have k0:Same0 w W0:=by rw [hW0];exact (Kept.refl _ w).alloc _
 obtain ⟨b0,b1,b2,b3,b4⟩:=box_node' w x ao ac (show Same0 _ W0 by rw [hW0];exact Kept.refl _ _)
 have HE:Hid (mayB n x=(decide (0≤x.1) && decide (x.2.1.length≤6) && insB (n:Int) x.2.1 && isMk x.2.2.1 && decide (x.2.2.2.2=0))):=may_app hp
 have hsz:=hx.size
 have CI:Hid (x.2.1.length≤6→Calls Try.prog 70 #[.int .i64 (n:Int),.slice ao x.2.1.length ac] W0 fun e w' => e=.returned (.bool (insB (n:Int) x.2.1))∧w' = W0):=fun h6=>inside_any ac (hx.at'.same k0) (by omega) (n:Int)
 have CM:=isMark_any x.2.2.1 W0
 have K0:Hid (Same0 w W0):=k0
 clear k0 hp hx
 generalize mayB n x=R at *
 generalize insB (n:Int) x.2.1=I at *
 generalize isMk x.2.2.1=M at *
 by_cases h1:0≤x.1
 ·by_cases h2:x.2.1.length≤6
  ·have C:=CI.out h2
   have h2' : (x.2.1.length:Int)≤6:=by omega
   cases I
   ·have HR:Hid (R=false):=by show _=_;rw [HE.out];simp
    clear HE CI
    go_enter Try.func83,Try.ntmps83
    go_upto_region 1 with fail
    rw [← hW0]
    clear hW0
    go_wp2_with (first | (go_at_call 70;refine C.mono ?_;rintro e w3 ⟨rfl,h3⟩;have h3:=h3.symm;subst h3))
    go_ret
    exact ⟨ret_bool HR.out.symm,K0.out⟩
   ·cases M
    ·have HR:Hid (R=false):=by show _=_;rw [HE.out];simp
     clear HE CI
     go_enter Try.func83,Try.ntmps83
     go_upto_region 1 with fail
     rw [← hW0]
     clear hW0
     go_wp2_with (first | (go_at_call 70;refine C.mono ?_;rintro e w3 ⟨rfl,h3⟩;have h3:=h3.symm;subst h3) | (go_at_call 73;refine CM.mono ?_;rintro e w3 ⟨rfl,h3⟩;have h3:=h3.symm;subst h3))
     go_ret
     exact ⟨ret_bool HR.out.symm,K0.out⟩
    ·have HR:Hid (R=decide (x.2.2.2.2=0)):=by show _=_;rw [HE.out];simp [h1,h2]
     clear HE CI
     go_enter Try.func83,Try.ntmps83
     go_upto_region 1 with fail
     rw [← hW0]
     clear hW0
     go_wp2_with (first | (go_at_call 70;refine C.mono ?_;rintro e w3 ⟨rfl,h3⟩;have h3:=h3.symm;subst h3) | (go_at_call 73;refine CM.mono ?_;rintro e w3 ⟨rfl,h3⟩;have h3:=h3.symm;subst h3))
     go_ret
     exact ⟨ret_bool (by rw [HR.out];rw [Bool.eq_iff_iff];simp),K0.out⟩
  ·have HR:Hid (R=false):=by show _=_;rw [HE.out];simp [h2]
   have h2' : ¬ (x.2.1.length:Int)≤6:=by omega
   clear HE CI
   go_enter Try.func83,Try.ntmps83
   go_upto_region 1 with fail
   rw [← hW0]
   clear hW0
   go_wp2
   go_ret
   exact ⟨ret_bool HR.out.symm,K0.out⟩
 ·have HR:Hid (R=false):=by show _=_;rw [HE.out];simp [h1]
  clear HE CI
  go_enter Try.func83,Try.ntmps83
  go_upto_region 1 with fail
  rw [← hW0]
  clear hW0
  go_wp2
  go_ret
  exact ⟨ret_bool HR.out.symm,K0.out⟩
set_option maxHeartbeats 300000 in
theorem isInd_any {w:World} {x:Nd} {ao:Option Addr} {ac:Nat} (hx:Arg w ao x.2.1 ac) (hp:x.2.2.2.1=true) (n:Nat) :
  Calls Try.prog 82 #[nodeV x ao ac,.int .i64 (n:Int)] w fun e w' => e=.returned (.bool (mayB n x))∧Same0 w w' := by
 obtain ⟨W0,hW0⟩:∃ W0,W0=w.alloc (.cells #[.int .i64 x.1,.slice ao x.2.1.length ac,.int .i64 x.2.2.1,.bool x.2.2.2.1,.int .i64 x.2.2.2.2] 47):=⟨_,rfl⟩
 have k0:Same0 w W0:=by rw [hW0];exact (Kept.refl _ w).alloc _
 obtain ⟨b0,b1,b2,b3,b4⟩:=box_node' w x ao ac (show Same0 _ W0 by rw [hW0];exact Kept.refl _ _)
 have HE:Hid (mayB n x=(decide (x.1=0) && decide (x.2.1.length=0) && decide (x.2.2.1=0) && insB (n:Int) [x.2.2.2.2])):=may_indir hp
 have hsz:=hx.size
 have CI:=inside_any 1 (ints_one W0 x.2.2.2.2) (by simp) (n:Int)
 have K0:Hid (Same0 w W0):=k0
 have K1:Hid (Same0 w (W0.alloc (.cells #[.int .i64 x.2.2.2.2] 3))):=k0.alloc _
 clear k0 hp hx
 generalize mayB n x=R at *
 generalize insB (n:Int) [x.2.2.2.2]=I at *
 by_cases h1:x.1=0
 ·by_cases h2:x.2.1.length=0
  ·by_cases h3:x.2.2.1=0
   ·have HR:Hid (R=I):=by show _=_;rw [HE.out];simp [h1,h2,h3]
    rw [h1] at b0
    rw [h2] at b1
    rw [h3] at b2
    clear HE h1 h2 h3
    go_enter Try.func82,Try.ntmps82
    go_upto_region 1 with fail
    rw [← hW0]
    clear hW0
    go_wp2_with (first | (go_at_call 70;refine CI.mono ?_;rintro e w3 ⟨rfl,rfl⟩))
    go_ret
    exact ⟨ret_bool HR.out.symm,K1.out⟩
   ·have HR:Hid (R=false):=by show _=_;rw [HE.out];simp [h3]
    rw [h1] at b0
    rw [h2] at b1
    clear HE h1 h2
    go_enter Try.func82,Try.ntmps82
    go_upto_region 1 with fail
    rw [← hW0]
    clear hW0
    go_wp2
    go_ret
    exact ⟨ret_bool HR.out.symm,K0.out⟩
  ·have HR:Hid (R=false):=by show _=_;rw [HE.out];simp;intro _ h;rw [h] at h2;simp at h2
   have h2' : ¬ (x.2.1.length:Int)=0:=by omega
   rw [h1] at b0
   clear HE h1
   go_enter Try.func82,Try.ntmps82
   go_upto_region 1 with fail
   rw [← hW0]
   clear hW0
   go_wp2
   go_ret
   exact ⟨ret_bool HR.out.symm,K0.out⟩
 ·have HR:Hid (R=false):=by show _=_;rw [HE.out];simp [h1]
  clear HE
  go_enter Try.func82,Try.ntmps82
  go_upto_region 1 with fail
  rw [← hW0]
  clear hW0
  go_wp2
  go_ret
  exact ⟨ret_bool HR.out.symm,K0.out⟩
set_option maxHeartbeats 300000 in
theorem shaped_any {w:World} {ao:Option Addr} {ac:Nat} {l:List Nd} (h:NsW w ao l) (hN:l.length≤4000) :
  Calls Try.prog 74 #[.slice ao l.length ac] w fun e w' => e=.returned (.bool (l.all (mayB l.length)))∧Same0 w w' := by
 have HL:Hid (∀ ww,Same0 w ww→NsW ww ao l):=fun ww hk=>h.same hk
 have KR:Same0 w w:=Kept.refl _ _
 have HNO:Hid (∀ k (hk:k<l.length),mayB l.length l[k]=false→l.all (mayB l.length)=false):=fun k hk e=>by
  rw [Bool.eq_false_iff]
  intro q
  rw [List.all_eq_true] at q
  rw [q _ (List.getElem_mem hk)] at e
  cases e
 clear h
 go_enter Try.func74,Try.ntmps74
 go_wp2
 go_loopw [7] (fun i wr=>∃ (k:Nat),i=.int .i64 (k:Int)∧k≤l.length∧Hid (∀ j (hj:j<l.length),j<k→mayB l.length l[j]=true)∧Same0 w wr) (fun i _=>l.length-(intOf i).toNat)
 case atStart=>exact ⟨0,rfl,Nat.zero_le _,fun j _ hj=>absurd hj (Nat.not_lt_zero _),KR⟩
 case round=>
  clear KR
  obtain ⟨k,rfl,hk,hall,hw⟩:=hrel
  by_cases hlt:k<l.length
  ·have j1:(k:Int)<(l.length:Int):=by omega
   have j2:(0:Int)≤(k:Int):=by omega
   rcases HL.out wr hw with e | ⟨nb,noff,e,hnb,hn⟩
   ·subst e;simp at hlt
   subst e
   obtain ⟨xo,xc,n0,n1,n2,n3,n4,n5⟩:=hn k hlt
   obtain ⟨W3,hW3⟩:∃ W3,W3=wr.alloc (.cells #[.int .i64 l[k].1,.slice xo l[k].2.1.length xc,.int .i64 l[k].2.2.1,.bool l[k].2.2.2.1,.int .i64 l[k].2.2.2.2] 47):=⟨_,rfl⟩
   have kb:Same0 wr W3:=by rw [hW3];exact (Kept.refl _ _).alloc _
   obtain ⟨x0,x1,x2,x3,x4⟩:=box_node' wr l[k] xo xc (show Same0 _ W3 by rw [hW3];exact Kept.refl _ _)
   have n6:=n5.onto kb
   have HBX:Hid (∀ ww,Same0 W3 ww→ww.cell? ⟨wr.heap.size,3,none⟩=some (.bool l[k].2.2.2.1)):=fun ww hk=>(box_node' wr l[k] xo xc (by rw [hW3] at hk;exact hk)).2.2.2.1
   have HN:=HNO.out k hlt
   have HKW:Hid (∀ ww,Same0 W3 ww→Same0 w ww):=fun ww hk=>(hw.trans' kb).trans' hk
   have HY:Hid (mayB l.length l[k]=true→Hid (∀ j (hj:j<l.length),j<k+1→mayB l.length l[j]=true)):=fun e j hj hjk=>by
    by_cases q:j=k
    ·subst q;exact e
    ·exact hall.out j hj (by omega)
   clear n5 kb hn hall
   generalize l[k]=y at *
   obtain ⟨ys,ya,ym,yp,yt⟩:=y
   simp only at *
   cases yp
   ·have CA:=isApp_any (x:=(ys,ya,ym,false,yt)) n6 rfl l.length
    clear n6
    generalize mayB l.length (ys,ya,ym,false,yt)=M at *
    go_upto_region 4 with fail
    rw [← hW3]
    clear hW3 n0 n1 n2 n3 n4
    cases M
    ·have HF:Hid (l.all (mayB l.length)=false):=HN rfl
     clear HN
     go_wp2_with (first | (go_at_call 83;refine CA.mono ?_;rintro e w5 ⟨rfl,k5⟩;have z3:=HBX.out w5 k5))
     go_ret
     exact ⟨ret_bool HF.out.symm,HKW.out _ k5⟩
    ·have HY2:=HY.out (by first | rfl | trivial)
     clear HN HY
     go_wp2_with (first | (go_at_call 83;refine CA.mono ?_;rintro e w5 ⟨rfl,k5⟩;have z3:=HBX.out w5 k5))
     have hw5:=HKW.out _ k5
     go_roundw
     case rel=>exact ⟨k+1,by go_num,by omega,HY2,hw5⟩
     case measure=>simp [intOf];omega
   ·have CA:=isInd_any (x:=(ys,ya,ym,true,yt)) n6 rfl l.length
    clear n6
    generalize mayB l.length (ys,ya,ym,true,yt)=M at *
    go_upto_region 4 with fail
    rw [← hW3]
    clear hW3 n0 n1 n2 n3 n4
    cases M
    ·have HF:Hid (l.all (mayB l.length)=false):=HN rfl
     clear HN
     go_wp2_with (first | (go_at_call 82;refine CA.mono ?_;rintro e w5 ⟨rfl,k5⟩;have z3:=HBX.out w5 k5))
     go_ret
     exact ⟨ret_bool HF.out.symm,HKW.out _ k5⟩
    ·have HY2:=HY.out (by first | rfl | trivial)
     clear HN HY
     go_wp2_with (first | (go_at_call 82;refine CA.mono ?_;rintro e w5 ⟨rfl,k5⟩;have z3:=HBX.out w5 k5))
     have hw5:=HKW.out _ k5
     go_roundw
     case rel=>exact ⟨k+1,by go_num,by omega,HY2,hw5⟩
     case measure=>simp [intOf];omega
  ·obtain rfl:k=l.length:=by omega
   have HF:Hid (l.all (mayB l.length)=true):=List.all_eq_true.2 (fun x hx=>by
    obtain ⟨j,hj,rfl⟩:=List.mem_iff_getElem.1 hx
    exact hall.out j hj hj)
   clear hall
   go_wp2
   go_ret
   exact ⟨ret_bool HF.out.symm,hw⟩
def RfE (room:Nat) (l:List Nd) (e:Int):Prop:=
 (room<l.length∧e=111)∨(l.length≤room∧l.all (mayB l.length)=false∧e=114)∨(l.length≤room∧l.all (mayB l.length)=true∧¬ Ac l∧e=113)∨(l.length≤room∧l.all (mayB l.length)=true∧Ac l∧e=0)
theorem RfE.uniq {room:Nat} {l:List Nd} {e e' : Int} (h:RfE room l e) (h' : RfE room l e'):e=e' := by
 rcases h with ⟨a,b⟩ | ⟨a,b,c⟩ | ⟨a,b,c,d⟩ | ⟨a,b,c,d⟩ <;> rcases h' with ⟨a', b'⟩ | ⟨a', b', c'⟩ | ⟨a', b', c', d'⟩ | ⟨a', b', c', d'⟩ <;> first | omega | exact absurd c' c | exact absurd c c' | (rw [b] at b'; cases b'; done)
theorem few_of_may {l:List Nd} (h:l.all (mayB l.length)=true):(∀ x∈l,mayB l.length x=true)∧InL l∧∀ x∈l,x.2.1.length≤6:=by
 have h1:∀ x∈l,mayB l.length x=true:=List.all_eq_true.1 h
 exact ⟨h1,inl_of_may h1,fun x hx=>(may_facts (h1 x hx)).2.1⟩
set_option maxHeartbeats 1000000 in
theorem refill_no {B:Nat→Prop} {w:World} {h g room:Nat} {l:List Nd} (p:HpB B w h g room l) {ao:Option Addr} {ac:Nat} {l' : List Nd} (hs:NsW w ao l') (hsz:l'.length≤maxLen) {E:Int} (hE:RfE room l' E) (h0:E≠0) :
  Calls Try.prog 57 #[.pointer (some ⟨h,0,none⟩),.slice ao l'.length ac] w fun e w' => e=.returned (.int .i64 E)∧Same0 w w' := by
 unfold maxLen at hsz
 obtain ⟨c0,c1⟩:=p.cells
 have hr2:=p.rm2
 have KR:Hid (Same0 w w):=Kept.refl _ _
 clear p
 rcases hE with ⟨a,rfl⟩ | ⟨a,b,rfl⟩ | ⟨a,b,c,rfl⟩ | ⟨a,b,c,rfl⟩
 ·have j1:(room:Int)<(l'.length:Int):=by omega
  clear hs
  go_enter Try.func57,Try.ntmps57
  go_wp2
  go_ret
  exact ⟨rfl,KR.out⟩
 ·have j1:¬ (room:Int)<(l'.length:Int):=by omega
  have CS:=shaped_any (ac:=ac) hs (by omega)
  rw [b] at CS
  clear hs b
  go_enter Try.func57,Try.ntmps57
  go_wp2_with (first | (go_at_call 74;refine CS.mono ?_;rintro e w1 ⟨rfl,k1⟩))
  go_ret
  exact ⟨rfl,k1⟩
 ·have j1:¬ (room:Int)<(l'.length:Int):=by omega
  have CS:=shaped_any (ac:=ac) hs (by omega)
  obtain ⟨f1,f2,f3⟩:=few_of_may b
  have CR:Hid (∀ ww,Same0 w ww→Calls Try.prog 75 #[.slice ao l'.length ac] ww fun e w' => RingQ l' ww e w'):=fun ww hk=>ringed_any (hs.same hk) f2 f3 (by omega)
  have HNA:Hid (¬ Ac l'):=c
  rw [b] at CS
  clear hs b f1 f2 f3 c
  go_enter Try.func57,Try.ntmps57
  go_upto_region 7 with (first | (go_at_call 74;refine CS.mono ?_;rintro e w1 ⟨rfl,k1⟩))
  have CR1:=CR.out w1 k1
  clear CR CS
  go_wp2_with (first | (go_at_call 75;refine CR1.mono ?_;rintro e w2 ⟨b,rfl,hb,k2⟩;obtain rfl:b=true:=hb.2 HNA.out))
  go_ret
  exact ⟨rfl,k1.trans' k2⟩
 ·exact absurd rfl h0
structure RfI (w wr:World) (h g room:Nat) (v:Value) (l:List Nd) (k:Nat):Prop where
 box:wr.heap[h]? = some (.cells #[.slice (some ⟨g,0,none⟩) room room,v] 84 (0,0))
 blk:∃ cs,wr.heap[g]? = some (.cells cs 47 (0,0))∧cs.size=room * 5
 each:∀ i (hi:i<l.length),i<k→NdC (fun b=>w.heap.size≤b) wr g (i * 5) l[i]
 kp:Kept (fun b=>b=g) w wr
theorem RfI.cells {w wr:World} {h g room k:Nat} {v:Value} {l:List Nd} (p:RfI w wr h g room v l k):wr.cell? ⟨h,0,none⟩=some (.slice (some ⟨g,0,none⟩) room room):=cellAt p.box 0
theorem RfI.same {w wr w' : World} {h g room k:Nat} {v:Value} {l:List Nd} (p:RfI w wr h g room v l k) (hk:Same0 wr w'):RfI w w' h g room v l k:=by
 obtain ⟨cs,h1,h2⟩:=p.blk
 exact ⟨hk.at0 p.box,⟨cs,hk.at0 h1,h2⟩,fun i hi hik=>(p.each i hi hik).kept (lt_of_at h1) hk (fun f=>f) (fun _ _ f=>f.elim),p.kp.trans hk (fun _ _ f=>f.elim)⟩
theorem RfI.there {w wr:World} {h g room k:Nat} {v:Value} {l:List Nd} (p:RfI w wr h g room v l k) {i:Nat} (hi:i<room):(∃ u0 u1 u2 u3 u4,wr.cell? ⟨g,i * 5,none⟩=some u0∧wr.cell? ⟨g,i * 5+1,none⟩=some u1∧wr.cell? ⟨g,i * 5+2,none⟩=some u2∧wr.cell? ⟨g,i * 5+3,none⟩=some u3∧wr.cell? ⟨g,i * 5+4,none⟩=some u4)∧∀ o,wr.frozen? ⟨g,o,none⟩=false:=by
 obtain ⟨cs,h1,h2⟩:=p.blk
 have t:∀ o,o<cs.size→wr.cell? ⟨g,o,none⟩=some cs[o]! := fun o ho=>by rw [cellAt h1];simp [ho]
 exact ⟨⟨_,_,_,_,_,t _ (by omega),t _ (by omega),t _ (by omega),t _ (by omega),t _ (by omega)⟩,fun o=>frozenAt h1 o⟩
theorem RfI.put {w wr w3:World} {h g room k:Nat} {v:Value} {l:List Nd} (p:RfI w wr h g room v l k) (hne:h≠g) (hk:Same0 wr w3) (hl:k<l.length) (hr:k<room) {bo:Option Addr} {bc:Nat} (ha:ArgT w3 bo l[k].2.1 bc) (hb:∀ a,bo=some a→w.heap.size≤a.block) :
  RfI w (put5 w3 g (k * 5) (.int .i64 l[k].1) (.slice bo l[k].2.1.length bc) (.int .i64 l[k].2.2.1) (.bool l[k].2.2.2.1) (.int .i64 l[k].2.2.2.2)) h g room v l (k+1):=by
 have p3:=p.same hk
 have hkl:(l.take k).length=k:=by simp;omega
 obtain ⟨q1,q2,q3⟩:=put5_nodes (B:=fun b=>w.heap.size≤b) (B' := fun b=>w.heap.size≤b) (l:=l.take k) (i:=k) (x:=l[k]) (ao:=bo) (ac:=bc) p3.blk (fun i hi=>by
  have hi' : i<k:=by omega
  have:=p3.each i (by omega) hi'
  simpa using this) hr ha hb (fun _ e=>e)
 have K:=put5_kept w3 g (k * 5) (.int .i64 l[k].1) (.slice bo l[k].2.1.length bc) (.int .i64 l[k].2.2.1) (.bool l[k].2.2.2.1) (.int .i64 l[k].2.2.2.2)
 refine ⟨K.at p3.box hne,q2,fun i hi hik=>?_,p3.kp.trans K (fun _ _ e=>e)⟩
 by_cases e:i=k
 ·subst e;exact q1
 ·have:=q3 i (by omega) e
  simpa using this
theorem setCells_kept (g:Nat):∀ (vs:List Value) (o:Nat) (w:World),Kept (fun k=>k=g) w (w.setCells g o vs)∧∀ cs t fr,w.heap[g]? = some (.cells cs t fr)→∃ cs', (w.setCells g o vs).heap[g]? = some (.cells cs' t fr)∧cs'.size=cs.size
 | [],o,w=>⟨Kept.refl _ _,fun cs t fr h=>⟨cs,h,rfl⟩⟩
 | v :: r,o,w=>by
  obtain ⟨h1,h2⟩:=setCells_kept g r (o+1) (w.setCell ⟨g,o,none⟩ v)
  have k:Kept (fun k=>k=g) w (w.setCell ⟨g,o,none⟩ v):=Kept.setCell (S:=fun k=>k=g) (Kept.refl _ _) (p:=⟨g,o,none⟩) (fun _=>rfl) v
  refine ⟨k.trans h1 (fun _ _ e=>e),fun cs t fr h=>?_⟩
  obtain ⟨cs', q1,q2⟩:=h2 _ t fr (setAt h o v)
  exact ⟨cs', q1,by rw [q2];simp⟩
theorem RfI.cleared {w wr:World} {h g room:Nat} {v:Value} {l:List Nd} (p:RfI w wr h g room v l l.length) (hne:h≠g) (vs:List Value):RfI w (wr.setCells g (l.length * 5) vs) h g room v l l.length:=by
 obtain ⟨cs,h1,h2⟩:=p.blk
 obtain ⟨k,q⟩:=setCells_kept g vs (l.length * 5) wr
 obtain ⟨cs', q1,q2⟩:=q cs _ _ h1
 have gi:∀ j,j=g→NotI wr j:=fun j e cur hc=>by rw [e,h1] at hc;cases hc
 refine ⟨k.at p.box hne,⟨cs', q1,by rw [q2,h2]⟩,fun i hi hik=>?_,p.kp.trans k (fun _ _ e=>e)⟩
 obtain ⟨ao,ac,n0,n1,n2,n3,n4,n5,n6⟩:=p.each i hi hik
 have t:∀ o,o<l.length * 5→(wr.setCells g (l.length * 5) vs).cell? ⟨g,o,none⟩=wr.cell? ⟨g,o,none⟩:=fun o ho=>World.cell?_setCells_out g vs _ _ _ (fun _ _=>.inl ho)
 exact ⟨ao,ac,(t _ (by omega)).trans n0,(t _ (by omega)).trans n1,(t _ (by omega)).trans n2,(t _ (by omega)).trans n3,(t _ (by omega)).trans n4,n5.kept k gi,n6⟩
theorem RfI.done {w wr:World} {h g room:Nat} {v:Value} {l:List Nd} (p:RfI w wr h g room v l l.length) (hne:h≠g) (h1:1≤room) (h2:room≤4000) (hl:l.length≤room) (hm:∀ x∈l,mayB l.length x=true) (ha:Ac l) :
  HpB (fun b=>w.heap.size≤b) (wr.setCell ⟨h,1,none⟩ (.int .i64 (l.length:Int))) h g room l∧Kept (fun k=>k=h∨k=g) w (wr.setCell ⟨h,1,none⟩ (.int .i64 (l.length:Int))):=by
 obtain ⟨cs,q1,q2⟩:=p.blk
 have k:Kept (fun k=>k=h) wr (wr.setCell ⟨h,1,none⟩ (.int .i64 (l.length:Int))):=Kept.setCell (S:=fun k=>k=h) (Kept.refl _ _) (p:=⟨h,1,none⟩) (fun _=>rfl) _
 have hi:∀ j,j=h→NotI wr j:=fun j e cur hc=>by rw [e,p.box] at hc;cases hc
 refine ⟨⟨?_,⟨cs,k.at q1 (fun e=>hne e.symm),q2⟩,h1,h2,hl,fun i hi' => (p.each i hi' hi').kept (lt_of_at q1) k (fun e=>hne e.symm) (fun j _ e=>hi j e),hm,ha⟩,?_⟩
 ·have:=setAt p.box 1 (.int .i64 (l.length:Int))
  simpa using this
 ·exact (p.kp.mono (fun _ _ e=>.inr e)).trans k (fun _ _ e=>.inl e)
theorem zero_one (n:Nat):∀ v∈(Builtin.zeroCells #[Value.int .i64 0,.slice none 0 0,.int .i64 0,.bool false,.int .i64 0] n).toList,v.oneCell' = true:=by
 intro v hv
 unfold Builtin.zeroCells at hv
 simp at hv
 obtain ⟨i,hi,rfl⟩:=hv
 have:i % 5<5:=Nat.mod_lt _ (by decide)
 match q:i % 5,this with
 | 0,_=>rfl
 | 1,_=>rfl
 | 2,_=>rfl
 | 3,_=>rfl
 | 4,_=>rfl
theorem run_clear_nodes (w:World) (ty:TypeId) (g o m c:Nat) (hm:0<m) (hc:∀ j,j<m * 5→(w.cell? ⟨g,o+j,none⟩).isSome=true) (hf:∀ j,j<m * 5→w.frozen? ⟨g,o+j,none⟩=false) :
  (Builtin.clear_ #[32] ty #[.slice (some ⟨g,o,none⟩) m c]).run Try.prog w=.ok (.tuple #[]) (w.setCells g o (Builtin.zeroCells #[Value.int .i64 0,.slice none 0 0,.int .i64 0,.bool false,.int .i64 0] m).toList):=by
 have hlen:(Builtin.zeroCells #[Value.int .i64 0,.slice none 0 0,.int .i64 0,.bool false,.int .i64 0] m).toList.length=m * 5:=by simp [Builtin.zeroCells]
 have hst:=run_storeCells_cells (P:=Try.prog) g o (Builtin.zeroCells #[Value.int .i64 0,.slice none 0 0,.int .i64 0,.bool false,.int .i64 0] m).toList 0 w (by rw [hlen];simpa using hc) (by rw [hlen];simpa using hf) (zero_one m)
 simp only [Nat.add_zero] at hst
 obtain ⟨k,rfl⟩:∃ k,m=k+1:=⟨m-1,by omega⟩
 have hcl:(Value.agg #[.int .i64 0,.slice none 0 0,.int .i64 0,.bool false,.int .i64 0]).cells = #[Value.int .i64 0,.slice none 0 0,.int .i64 0,.bool false,.int .i64 0]:=rfl
 simp [Builtin.clear_,run_underlying Try.underlying32,hcl,hst]
set_option maxHeartbeats 1000000 in
theorem refill_yes {B:Nat→Prop} {w:World} {h g room:Nat} {l:List Nd} (p:HpB B w h g room l) {ao:Option Addr} {ac:Nat} {l' : List Nd} (hs:NsV (fun b=>b≠g) w ao l') (hE:RfE room l' 0) :
  Calls Try.prog 57 #[.pointer (some ⟨h,0,none⟩),.slice ao l'.length ac] w fun e w' => e=.returned (.int .i64 0)∧HpB (fun b=>w.heap.size≤b) w' h g room l' ∧ Kept (fun k=>k=h∨k=g) w w' := by
 obtain ⟨a,b,c⟩:l'.length≤room∧l'.all (mayB l'.length)=true∧Ac l' := by
  rcases hE with ⟨_,e⟩ | ⟨_,_,e⟩ | ⟨_,_,_,e⟩ | ⟨a,b,c,_⟩
  ·cases e
  ·cases e
  ·cases e
  ·exact ⟨a,b,c⟩
 obtain ⟨c0,c1⟩:=p.cells
 have hr1:=p.rm1
 have hr2:=p.rm2
 have hne:=p.ne
 have j1:¬ (room:Int)<(l'.length:Int):=by omega
 have CS:=shaped_any (ac:=ac) hs.weak (by omega)
 obtain ⟨f1,f2,f3⟩:=few_of_may b
 have CR:Hid (∀ ww,Same0 w ww→Calls Try.prog 75 #[.slice ao l'.length ac] ww fun e w' => RingQ l' ww e w'):=fun ww hk=>ringed_any (hs.same hk).weak f2 f3 (by omega)
 have HAC:Hid (Ac l'):=c
 have HF1:Hid (∀ x∈l', mayB l'.length x=true):=f1
 have HF3:Hid (∀ x∈l', x.2.1.length≤6):=f3
 have HI0:Hid (∀ ww,Same0 w ww→RfI w ww h g room (.int .i64 (l.length:Int)) l' 0):=fun ww hk=>by
  obtain ⟨cs,h1,h2⟩:=p.blk
  exact ⟨hk.at0 p.box,⟨cs,hk.at0 h1,h2⟩,fun i _ hi=>absurd hi (Nat.not_lt_zero _),hk.mono (fun _ _ f=>f.elim)⟩
 have HGI:Hid (∀ k,k=g→NotI w k):=fun k e cur hc=>by
  obtain ⟨cs,h1,h2⟩:=p.blk
  rw [e,h1] at hc;cases hc
 have HNS:Hid (∀ ww,Kept (fun k=>k=g) w ww→∀ j (hj:j<l'.length),∃ nb noff xo xc,ao=some ⟨nb,noff,none⟩∧ww.cell? ⟨nb,noff+j * 5,none⟩=some (.int .i64 l'[j].1)∧ww.cell? ⟨nb,noff+j * 5+1,none⟩=some (.slice xo l'[j].2.1.length xc)∧ww.cell? ⟨nb,noff+j * 5+2,none⟩=some (.int .i64 l'[j].2.2.1)∧ww.cell? ⟨nb,noff+j * 5+3,none⟩=some (.bool l'[j].2.2.2.1)∧ww.cell? ⟨nb,noff+j * 5+4,none⟩=some (.int .i64 l'[j].2.2.2.2)∧Arg ww xo l'[j].2.1 xc):=fun ww hk j hj=>by
  rcases hs.kept hk (fun _ q t=>q t) with e | ⟨nb,noff,e, -, -,hn⟩
  ·rw [e] at hj;simp at hj
  ·obtain ⟨xo,xc,n0,n1,n2,n3,n4,n5, -⟩:=hn j hj
   exact ⟨nb,noff,xo,xc,e,n0,n1,n2,n3,n4,n5⟩
 rw [b] at CS
 have l0:(0:Int)≤(l'.length:Int):=by omega
 have l1:(l'.length:Int)≤(room:Int):=by omega
 clear hs b f1 f2 f3 c hE
 go_enter Try.func57,Try.ntmps57
 go_upto_region 7 with (first | (go_at_call 74;refine CS.mono ?_;rintro e w1 ⟨rfl,k1⟩))
 have CR1:=CR.out w1 k1
 clear CR CS
 go_upto_region 10 with (first | (go_at_call 75;refine CR1.mono ?_;rintro e w2 ⟨b,rfl,hb,k2⟩;obtain rfl:b=false:=(by cases b;rfl;exact absurd HAC.out (hb.1 rfl))))
 have HI2:Hid (RfI w w2 h g room (.int .i64 (l.length:Int)) l' 0):=HI0.out w2 (k1.trans' k2)
 have hw2:=(k1.trans' k2).size
 clear CR1 hb k1 k2 c0 c1 HI0
 go_loopw [28] (fun i wr=>∃ k:Nat,i=.int .i64 (k:Int)∧k≤l'.length∧Hid (RfI w wr h g room (.int .i64 (l.length:Int)) l' k)) (fun i _=>l'.length-(intOf i).toNat)
 case atStart=>exact ⟨0,rfl,Nat.zero_le _,HI2⟩
 case round=>
  clear HI2
  obtain ⟨k,rfl,hk,HI⟩:=hrel
  by_cases hlt:k<l'.length
  ·have j2:(k:Int)<(l'.length:Int):=by omega
   have j3:(0:Int)≤(k:Int):=by omega
   have j4:(k:Int)<(room:Int):=by omega
   have hkr:k<room:=by omega
   obtain ⟨nb,noff,xo,xc,rfl,n0,n1,n2,n3,n4,n5⟩:=HNS.out wr HI.out.kp k hlt
   obtain ⟨W3,hW3⟩:∃ W3,W3=wr.alloc (.cells #[.int .i64 l'[k].1,.slice xo l'[k].2.1.length xc,.int .i64 l'[k].2.2.1,.bool l'[k].2.2.2.1,.int .i64 l'[k].2.2.2.2] 47):=⟨_,rfl⟩
   have kb:Same0 wr W3:=by rw [hW3];exact (Kept.refl _ _).alloc _
   have kd:Same0 wr W3.drew:=kb.drew
   obtain ⟨x0,x1,x2,x3,x4⟩:=box_node' wr l'[k] xo xc (show Same0 _ W3.drew by rw [hW3];exact (Kept.refl _ _).drew)
   have c0:=(HI.out.same kd).cells
   have h6:=HF3.out _ (List.getElem_mem hlt)
   have CC:=copied_any (x:=l'[k]) (ac:=xc) (n5.onto kd) (by omega)
   have HP:Hid (∀ w3 bo bc,Same0 wr w3→ArgT w3 bo l'[k].2.1 bc→(∀ a,bo=some a→w.heap.size≤a.block)→RfI w (put5 w3 g (k * 5) (.int .i64 l'[k].1) (.slice bo l'[k].2.1.length bc) (.int .i64 l'[k].2.2.1) (.bool l'[k].2.2.2.1) (.int .i64 l'[k].2.2.2.2)) h g room (.int .i64 (l.length:Int)) l' (k+1)):=fun w3 bo bc hk3 ha hb=>HI.out.put hne hk3 hlt hkr ha hb
   have HSZ:Hid (w.heap.size≤W3.drew.heap.size):=Nat.le_trans HI.out.kp.size kd.size
   have HT:Hid (∀ w3,Same0 wr w3→(∃ u0 u1 u2 u3 u4,w3.cell? ⟨g,k * 5,none⟩=some u0∧w3.cell? ⟨g,k * 5+1,none⟩=some u1∧w3.cell? ⟨g,k * 5+2,none⟩=some u2∧w3.cell? ⟨g,k * 5+3,none⟩=some u3∧w3.cell? ⟨g,k * 5+4,none⟩=some u4)∧(∀ o,w3.frozen? ⟨g,o,none⟩=false)∧w3.cell? ⟨h,0,none⟩=some (.slice (some ⟨g,0,none⟩) room room)):=fun w3 hk3=>⟨((HI.out.same hk3).there hkr).1,((HI.out.same hk3).there hkr).2,(HI.out.same hk3).cells⟩
   clear n5 kb
   go_upto_region 12 with fail
   rw [← hW3]
   clear hW3 n0 n1 n2 n3 n4
   go_region_with (first | (go_at_call 61;refine CC.mono ?_;rintro e w5 ⟨bo,bc,rfl,ha,hbb,hk5⟩;have K5:=kd.trans' hk5;obtain ⟨⟨u0,u1,u2,u3,u4,t0,t1,t2,t3,t4⟩,ff,cc1⟩:=HT.out w5 K5;have f0:=ff (k * 5);have f1:=ff (k * 5+1);have f2:=ff (k * 5+2);have f3:=ff (k * 5+3);have f4:=ff (k * 5+4);clear ff))
   all_goals
    have HN:Hid (RfI w (put5 w5 g (k * 5) (.int .i64 l'[k].1) (.slice bo l'[k].2.1.length bc) (.int .i64 l'[k].2.2.1) (.bool l'[k].2.2.2.1) (.int .i64 l'[k].2.2.2.2)) h g room (.int .i64 (l.length:Int)) l' (k+1)):=HP.out w5 bo bc K5 ha (fun a e=>Nat.le_trans HSZ.out (hbb a e))
    clear t0 t1 t2 t3 t4 f0 f1 f2 f3 f4 cc1 x0 x1 x2 x3 x4 c0 CC ha hbb
    go_wp2
    go_roundw
    case rel=>first | exact ⟨k+1,by go_num,by omega,HN⟩ | ((repeat apply Exists.intro);exact ⟨⟨k+1,by go_num,by omega,HN⟩,rfl⟩)
    case measure=>simp [intOf];omega
  ·have hkl:k=l'.length:=by omega
   subst hkl
   have c0:=HI.out.cells
   go_upto_region 14 with fail
   by_cases hfull:l'.length<room
   ·have l2:(l'.length:Int)<(room:Int):=by omega
    obtain ⟨Wz,hWz⟩:∃ Wz,Wz=wr.setCells g (l'.length * 5) (Builtin.zeroCells #[Value.int .i64 0,.slice none 0 0,.int .i64 0,.bool false,.int .i64 0] (room-l'.length)).toList:=⟨_,rfl⟩
    have HCL:∀ ty,(Builtin.clear_ #[32] ty #[.slice (some ⟨g,l'.length * 5,none⟩) (room-l'.length) (room-l'.length)]).run Try.prog wr=.ok (.tuple #[]) Wz:=by
     intro ty
     obtain ⟨cs,q1,q2⟩:=HI.out.blk
     rw [hWz]
     refine run_clear_nodes wr ty g _ _ _ (by omega) (fun j hj=>?_) (fun j _=>frozenAt q1 _)
     rw [cellAt q1]
     simp
     omega
    have HIZ:Hid (RfI w Wz h g room (.int .i64 (l.length:Int)) l' l'.length):=by rw [hWz];exact HI.out.cleared hne _
    have z1:Wz.cell? ⟨h,1,none⟩=some (.int .i64 (l.length:Int)):=cellAt HIZ.out.box 1
    have z2:Wz.frozen? ⟨h,1,none⟩=false:=frozenAt HIZ.out.box 1
    have FF:Hid (HpB (fun b=>w.heap.size≤b) (Wz.setCell ⟨h,1,none⟩ (.int .i64 (l'.length:Int))) h g room l' ∧ Kept (fun k=>k=h∨k=g) w (Wz.setCell ⟨h,1,none⟩ (.int .i64 (l'.length:Int)))):=HIZ.out.done hne hr1 hr2 a HF1.out HAC.out
    clear hWz HIZ HI HNS p
    go_wp2
    go_ret
    exact ⟨rfl,FF.out.1,FF.out.2⟩
   ·have hfl:l'.length=room:=by omega
    have z1:wr.cell? ⟨h,1,none⟩=some (.int .i64 (l.length:Int)):=cellAt HI.out.box 1
    have z2:wr.frozen? ⟨h,1,none⟩=false:=frozenAt HI.out.box 1
    have FF:Hid (HpB (fun b=>w.heap.size≤b) (wr.setCell ⟨h,1,none⟩ (.int .i64 (l'.length:Int))) h g room l' ∧ Kept (fun k=>k=h∨k=g) w (wr.setCell ⟨h,1,none⟩ (.int .i64 (l'.length:Int)))):=HI.out.done hne hr1 hr2 a HF1.out HAC.out
    rw [hfl] at FF ⊢
    have HCL:∀ ty,(Builtin.clear_ #[32] ty #[.slice (some ⟨g,0,none⟩) 0 0]).run Try.prog wr=.ok (.tuple #[]) wr:=fun ty=>by simp [Builtin.clear_,run_underlying Try.underlying32]
    clear HI HNS p hfl hfull hlt
    go_wp2
    go_ret
    exact ⟨rfl,FF.out.1,FF.out.2⟩
end Go.Proofs.Ytcbonegkfppdiaa
