import Derived.Test.YtmloedlkoijfbaaSU06
import Derived.Test.YtmloedlkoijfbaaSU05
namespace Go.Proofs.Ytmloedlkoijfbaa
set_option maxRecDepth 100000
set_option linter.unusedVariables false
open Go.RowKit
attribute [local go_sem ↓] Go.wp_at_zero Go.wp_at_succ
theorem iv_set (xs:List Int) (k:Nat) (z:Int):iv (xs.set k z)=(iv xs).set k (.int .i64 z):=by simp [iv,List.map_set]
theorem made_ints (n:Nat):(madeCells (Value.int .i64 0).cells (n * 1)).toList=iv (List.replicate n 0):=by
 rw [Nat.mul_one,show (Value.int .i64 0).cells = #[Value.int .i64 0] from rfl,toList_madeCells_one]
 simp [iv]
theorem row_int {w:World} {base g N:Nat} {m:List Int} (h:w.ownsRow base 3 1 (.slice (some ⟨g,0,none⟩) N N) N (iv m)) {k:Nat} (hk:k<N):∃ z,m[k]? = some z∧w.cell? ⟨g,k,none⟩=some (.int .i64 z)∧w.frozen? ⟨g,k,none⟩=false:=by
 have hl:m.length=N:=by have:=h.1;simp [iv] at this;omega
 refine ⟨m[k]'(by omega),by simp [hl,hk],?_,h.frozenAt k⟩
 rw [h.cellAt k (by omega)]
 simp [iv,hl,hk]
abbrev LdAt (wr:World) (lb N:Nat) (lead:List Int):Prop:=wr.ownsRow lb 3 1 (.slice (some ⟨lb,0,none⟩) N N) N (iv lead)
theorem LdAt.put {w wr:World} {lb N:Nat} {lead:List Int} (h:LdAt wr lb N lead) (hw:Same0 w wr) (hlo:w.heap.size≤lb) (b:Nat) (z:Int):LdAt (wr.setCell ⟨lb,b,none⟩ (.int .i64 z)) lb N (lead.set b z)∧Same0 w (wr.setCell ⟨lb,b,none⟩ (.int .i64 z))∧Kept (fun k=>k=lb) wr (wr.setCell ⟨lb,b,none⟩ (.int .i64 z)):=
 ⟨by unfold LdAt;rw [iv_set];exact (h.stored b _).1,hw.own hlo _,Kept.setCell (S:=fun k=>k=lb) (Kept.refl _ _) (p:=⟨lb,b,none⟩) (fun _=>rfl) _⟩
def DAt (wr:World) (lb:Nat) (bo:Option Addr) (D:List Int):Prop:=IntsAt wr bo D∧∀ x,bo=some x→D≠[]→x.block<wr.heap.size∧x.block≠lb
set_option maxHeartbeats 4000000 in
theorem ringed_any {w:World} {ao:Option Addr} {ac:Nat} {l:List Nd} (h:NsW w ao l) (hin:InL l) (few:∀ x∈l,x.2.1.length≤6) (hN:l.length≤4000) :
  Calls Try.prog 61 #[.slice ao l.length ac] w fun e w' => RingQ l w e w' := by
 obtain ⟨i,hi,hz0,hz1,hz2⟩:=info_parts info_intT
 have HL:Hid (∀ ww,Same0 w ww→∀ j (hj:j<l.length),∃ nb noff xo xc,ao=some ⟨nb,noff,none⟩∧ww.cell? ⟨nb,noff+j * 5,none⟩=some (.int .i64 l[j].1)∧ww.cell? ⟨nb,noff+j * 5+1,none⟩=some (.slice xo l[j].2.1.length xc)∧ww.cell? ⟨nb,noff+j * 5+2,none⟩=some (.int .i64 l[j].2.2.1)∧ww.cell? ⟨nb,noff+j * 5+3,none⟩=some (.bool l[j].2.2.2.1)∧ww.cell? ⟨nb,noff+j * 5+4,none⟩=some (.int .i64 l[j].2.2.2.2)∧Arg ww xo l[j].2.1 xc∧∀ x,xo=some x→l[j].2.1≠[]→x.block<w.heap.size):=fun ww hk j hj=>by
  rcases h with e | ⟨nb,noff,e,hnb,hn⟩
  ·rw [e] at hj;simp at hj
  ·obtain ⟨xo,xc,n0,n1,n2,n3,n4,n5⟩:=hn j hj
   have hlt:∀ x,xo=some x→l[j].2.1≠[]→x.block<w.heap.size:=fun x q h0=>n5.at'.lt h0 q
   have t:∀ o,ww.cell? ⟨nb,o,none⟩=w.cell? ⟨nb,o,none⟩:=fun o=>hk.cell (p:=⟨nb,o,none⟩) hnb (fun f=>f)
   exact ⟨nb,noff,xo,xc,e,(t _).trans n0,(t _).trans n1,(t _).trans n2,(t _).trans n3,(t _).trans n4,n5.onto hk,hlt⟩
 have HI:Hid (InL l):=hin
 have HW:Hid (∀ x∈l,x.2.1.length≤6):=few
 have HDD:Hid (∀ j (hj:j<l.length),dnL l j=downL l[j]):=fun j hj=>dnL_at hj
 obtain ⟨N,hNe⟩:∃ N,N=l.length:=⟨_,rfl⟩
 have HNE:Hid (N=l.length):=hNe
 have HL0:Hid (Ld l 0 0 (List.replicate N 0)):=by rw [hNe];exact Ld.start l
 rw [← hNe] at hN ⊢
 have i5:(0:Int)≤(N:Int):=by omega
 have i6:(N:Int)≤4000:=by omega
 clear h hin few hNe
 go_enter Try.func61,Try.ntmps61
 go_upto_region 2 with (first | (at_make;refine wpList_make_full _ rfl _ _ 31 rfl w.heap.size 3 i _ 1 Try.underlying31 hi hz0 hz1 _ _ _ _ N rfl rfl rfl rfl (by rw [hz2];omega) (by unfold maxLen;omega) (Nat.le_refl _) ?_;intro w1 hown hgrow))
 rw [made_ints] at hown
 have K1:Same0 w w1:=Same0.grown (Kept.refl _ w) hgrow
 obtain ⟨lb,hlb⟩:∃ lb,lb=w.heap.size:=⟨_,rfl⟩
 have hlo:w.heap.size≤lb:=by omega
 have hlb1:lb<w1.heap.size:=by rw [hlb];exact (hown.lt w.heap.size rfl).2
 rw [← hlb] at hown ⊢
 have HR1:Hid (LdAt w1 lb N (List.replicate N 0)):=hown
 clear hlb hown hgrow hz0 hz1 hz2 hi
 go_upto_region 3 with fail
 go_loopw [19] (fun i wr=>∃ (k:Nat) (lead:List Int),i=.int .i64 (k:Int)∧k≤N∧Hid (LdAt wr lb N lead)∧Hid (Ld l k 0 lead)∧Same0 w wr∧lb<wr.heap.size) (fun i _=>N-(intOf i).toNat)
 case atStart=>exact ⟨0,_,rfl,Nat.zero_le _,HR1,HL0,K1,hlb1⟩
 case round=>
  clear K1 HR1 HL0 hlb1
  obtain ⟨k,lead,rfl,hk,HR,HD,hw,hlb1⟩:=hrel
  by_cases hlt:k<N
  ·have hkl:k<l.length:=by rw [← HNE.out];exact hlt
   have j1:(k:Int)<(N:Int):=by omega
   have j2:(0:Int)≤(k:Int):=by omega
   obtain ⟨nb,noff,xo,xc,rfl,n0,n1,n2,n3,n4,n5,n6⟩:=HL.out wr hw k hkl
   have kb:Same0 wr (wr.alloc (.cells #[.int .i64 l[k].1,.slice xo l[k].2.1.length xc,.int .i64 l[k].2.2.1,.bool l[k].2.2.2.1,.int .i64 l[k].2.2.2.2] 47)):=(Kept.refl _ _).alloc _
   have CN:=next_any (n5.onto kb)
   have HDB:Hid (∀ z∈downL l[k],0≤z∧z<(l.length:Int)):=HI.out k hkl
   have dl:(downL l[k]).length≤1000:=by have:=HW.out _ (List.getElem_mem hkl);unfold downL;split <;> (simp;try omega)
   have HDE:Hid (dnL l k=downL l[k]):=HDD.out k hkl
   have HKB:Hid (Same0 wr (wr.alloc (.cells #[.int .i64 l[k].1,.slice xo l[k].2.1.length xc,.int .i64 l[k].2.2.1,.bool l[k].2.2.2.1,.int .i64 l[k].2.2.2.2] 47))):=kb
   have HN6:Hid (∀ x,xo=some x→l[k].2.1≠[]→x.block<w.heap.size):=n6
   generalize downL l[k]=D at *
   clear n5 kb n6
   go_upto_region 6 with (first | (go_at_call 65;refine CN.mono ?_;rintro e w3 ⟨bo,bc,rfl,hD,hbo,k3⟩))
   have hk3:=HKB.out.trans' k3
   have hw3:=hw.trans' hk3
   have HR3:Hid (LdAt w3 lb N lead):=hk3.row HR.out (fun _ _ f=>f)
   have HDA:Hid (DAt w3 lb bo D):=⟨hD,fun x e h0=>by
    have h1:=hk3.size
    have h2:=HKB.out.size
    have h3:=hw.size
    rcases hbo x e with ⟨q,q'⟩ | ⟨q1,q2⟩
    ·have:=HN6.out x q (by rw [← q'];exact h0);exact ⟨by omega,by omega⟩
    ·exact ⟨q2,by omega⟩⟩
   have hlb3:lb<w3.heap.size:=Nat.lt_of_lt_of_le hlb1 hk3.size
   clear CN n0 n1 n2 n3 n4 hD hbo k3 hk3
   go_loopw [26] (fun c wr2=>∃ (q:Nat) (lead' : List Int),c=.int .i64 (q:Int)∧q≤D.length∧Hid (LdAt wr2 lb N lead')∧Hid (Ld l k q lead')∧Hid (DAt wr2 lb bo D)∧Same0 w wr2∧lb<wr2.heap.size) (fun c _=>D.length-(intOf c).toNat)
   case atStart=>exact ⟨0,lead,rfl,Nat.zero_le _,HR3,HD,HDA,hw3,hlb3⟩
   case round=>
    clear HR3 HDA hw3 hlb3 HR HD hw hlb1
    obtain ⟨q,lead', rfl,hq,HR', HD', HA', hw', hlb'⟩:=hrel
    by_cases hql:q<D.length
    ·have q0:(0:Int)≤(q:Int):=by omega
     have q1:(q:Int)<(D.length:Int):=by omega
     have hD0:D≠[]:=fun q=>by rw [q] at hql;simp at hql
     obtain ⟨db,doff,rfl, -,cD⟩:=HA'.out.1.get hql
     have hz:=HDB.out _ (List.getElem_mem hql)
     obtain ⟨b,hb⟩:∃ b:Nat,D[q]=(b:Int):=⟨D[q].toNat,by omega⟩
     have hbl:b<l.length:=by omega
     have hbN:b<N:=by rw [HNE.out];exact hbl
     have q2:(0:Int)≤(b:Int):=by omega
     have q3:(b:Int)<(N:Int):=by omega
     have HD1:Hid (∃ v:Int,lead'[b]? = some v∧0≤v∧Ld l k (q+1) (lead'.set b (v+1))):=HD'.out.one (by rw [HDE.out];exact hql) (by simp only [HDE.out];exact hb) hbl
     have hbd:=HD'.out.bound HW.out (Nat.le_of_lt hkl) b
     obtain ⟨v,m0,m1,m2⟩:=row_int HR'.out hbN
     have hv6:=hbd v m0
     obtain ⟨v', e1,e2,e3⟩:=HD1.out
     rw [m0] at e1
     cases e1
     have HLN:Hid (Ld l k (q+1) (lead'.set b (v+1))):=e3
     obtain ⟨P1,P2,P3⟩:=HR'.out.put hw' hlo b (v+1)
     have HP1:Hid (LdAt (wr.setCell ⟨lb,b,none⟩ (.int .i64 (v+1))) lb N (lead'.set b (v+1))):=P1
     have HPA:Hid (DAt (wr.setCell ⟨lb,b,none⟩ (.int .i64 (v+1))) lb (some ⟨db,doff,none⟩) D):=⟨HA'.out.1.kept P3 (fun x e t=>(HA'.out.2 x e hD0).2 t),fun x e h0=>⟨Nat.lt_of_lt_of_le (HA'.out.2 x e h0).1 P3.size,(HA'.out.2 x e h0).2⟩⟩
     have hlb4:lb<(wr.setCell ⟨lb,b,none⟩ (.int .i64 (v+1))).heap.size:=Nat.lt_of_lt_of_le hlb' P3.size
     have v6:v≤24006:=by rw [← HNE.out] at hv6;omega
     rw [hb] at cD
     clear hb hz HD1 hbd m0 e3 P1 P3 hv6 hD0
     go_wp2
     go_roundw
     case rel=>exact ⟨q+1,_,by go_num,by omega,HP1,HLN,HPA,P2,hlb4⟩
     case measure=>simp [intOf];omega
    ·obtain rfl:q=D.length:=by omega
     have HLN:Hid (Ld l (k+1) 0 lead'):=Ld.next (by rw [HDE.out];exact HD'.out)
     go_wp2
     go_roundw
     case rel=>exact ⟨k+1,lead', by go_num,by omega,HR', HLN,hw', hlb'⟩
     case measure=>simp [intOf];omega
  ·obtain rfl:N=k:=by omega
   have HLD:Hid (Ld l l.length 0 lead):=by have:=HD.out;rw [HNE.out] at this;exact this
   have HBD:Hid (∀ (b:Nat) (v:Int),lead[b]? = some v→0≤v∧v≤24006):=fun b v hv=>by
    have h1:=HLD.out.bound HW.out (Nat.le_refl _) b v hv
    have hb:b<l.length:=by have:=(List.getElem?_eq_some_iff.1 hv).1;rw [HLD.out.1] at this;exact this
    rw [HLD.out.2 b hb] at hv
    cases hv
    have h0:l.length≤4000:=by rw [← HNE.out];exact hN
    exact ⟨by omega,by omega⟩
   clear HD hlt hk
   go_upto_region 13 with fail
   go_loopw [8,40] (fun f i wr2=>∃ (k:Nat) (T:List Nat),i=.int .i64 (k:Int)∧k≤N∧Hid (LdAt wr2 lb N lead)∧Hid (Row (lb+1) wr2 f (ofN T))∧Hid (Zr lead k T)∧Same0 w wr2∧lb<wr2.heap.size) (fun _ i _=>N-(intOf i).toNat)
   case atStart=>exact ⟨0,[],rfl,Nat.zero_le _,HR,World.ownsRow_nil _ _ _ _,Zr.start lead,hw,hlb1⟩
   case round=>
    clear HR hw hlb1
    obtain ⟨k,T,rfl,hk,HR,HT,HZ,hw,hlb1⟩:=hrel
    obtain ⟨to', tc,rfl⟩:=row_shape HT.out
    have hTN:(ofN T).length≤4000:=by rw [ofN_len'];have:=HZ.out.le;omega
    by_cases hlt:k<N
    ·obtain ⟨v,m0,m1,m2⟩:=row_int HR.out hlt
     have j1:(k:Int)<(N:Int):=by omega
     have j2:(0:Int)≤(k:Int):=by omega
     have hkl:k<lead.length:=(List.getElem?_eq_some_iff.1 m0).1
     have HM0:Hid (lead[k]? = some v):=m0
     by_cases hv:v=0
     ·subst hv
      have HZN:Hid (Zr lead (k+1) (T ++ [k])):=HZ.out.yes HM0.out
      have hbs:lb+1≤wr.heap.size:=hlb1
      have hTR:=HT.out
      clear m0 m2
      go_wp2_with (first | (at_builtin;refine wpList_push rfl _ _ 31 rfl Try.underlying31 (lb+1) (ofN T) _ rfl hTR (k:Int) rfl hbs (by omega) ?_;intro g4 cap4 w4 hr4 hk4 hor))
      have HR4:Hid (LdAt w4 lb N lead):=hk4.row HR.out (fun i e t=>by
       have h1:=(HT.out.lt i t).1
       have h2:lb=i:=Option.some.inj e
       omega)
      have HT4:Hid (Row (lb+1) w4 (.slice (some ⟨g4,0,none⟩) ((ofN T).length+1) cap4) (ofN (T ++ [k]))):=by show Row _ _ _ _;rw [ofN_snoc];exact hr4
      have hw4:Same0 w w4:=hw.trans hk4 (fun i hi e=>by have:=(HT.out.lt i e).1;omega)
      have hlb4:lb<w4.heap.size:=Nat.lt_of_lt_of_le hlb1 hk4.size
      clear hr4 hk4 hor hTR
      go_roundw
      case rel=>exact ⟨k+1,T ++ [k],by go_num,by omega,HR4,HT4,HZN,hw4,hlb4⟩
      case measure=>simp [intOf];omega
     ·have HZN:Hid (Zr lead (k+1) T):=HZ.out.no hkl (by have:=HM0.out;rw [List.getElem?_eq_getElem hkl] at this;simp at this;rw [this];exact hv)
      clear m0 m2
      go_wp2
      go_roundw
      case rel=>exact ⟨k+1,T,by go_num,by omega,HR,HT,HZN,hw,hlb1⟩
      case measure=>simp [intOf];omega
    ·have hkN:k=N:=by omega
     have HK0:Hid (Kh l (fun a=>∃ p:Nat,p<0∧T[p]? = some a) (dnL l) lead T):=by
      have hz:=HZ.out
      rw [hkN,HNE.out] at hz
      exact (Kh.start HLD.out hz).more (fun a f=>f.elim) (fun a ⟨p,hp,_⟩=>absurd hp (Nat.not_lt_zero _))
     have j9:¬ (k:Int)<(N:Int):=by omega
     clear hkN HZ HLD
     go_upto_region 19 with fail
     go_loopw [8,11] (fun f i wr2=>∃ (k:Nat) (T:List Nat) (lead:List Int) (R:Nat→List Int),i=.int .i64 (k:Int)∧k≤(ofN T).length∧Hid (LdAt wr2 lb N lead)∧Hid (Row (lb+1) wr2 f (ofN T))∧Hid (Kh l (fun a=>∃ p:Nat,p<k∧T[p]? = some a) R lead T)∧Hid (∀ p a:Nat,p<k→T[p]? = some a→R a=[])∧Hid (∀ (b:Nat) (v:Int),lead[b]? = some v→0≤v∧v≤24006)∧Same0 w wr2∧lb<wr2.heap.size) (fun _ i _=>N-(intOf i).toNat)
     case atStart=>exact ⟨0,T,lead,dnL l,rfl,Nat.zero_le _,HR,HT,HK0,fun p a hp=>absurd hp (Nat.not_lt_zero _),HBD,hw,hlb1⟩
     case round=>
      clear HR HT HK0 HBD hw hlb1 j9 hlt hk hTN
      obtain ⟨k,T,lead,R,rfl,hk,HR,HT,HK,HE,HBD,hw,hlb1⟩:=hrel
      obtain ⟨to', tc,rfl⟩:=row_shape HT.out
      have hTN:(ofN T).length≤N:=by rw [ofN_len', HNE.out];exact HK.out.le
      by_cases hlt:k<(ofN T).length
      ·have j0:(0:Int)≤(k:Int):=by omega
       have j1:(k:Int)<((ofN T).length:Int):=by omega
       have hkT:k<T.length:=by rwa [ofN_len'] at hlt
       obtain ⟨c,hc⟩:∃ c,c=T[k]:=⟨_,rfl⟩
       have hTk:T[k]? = some c:=by rw [hc];simp [hkT]
       have hcl:c<l.length:=HK.out.lt (List.mem_of_getElem? hTk)
       have j2:(0:Int)≤(c:Int):=by omega
       have j3:(c:Int)<(N:Int):=by rw [HNE.out];omega
       have HTK:Hid (T[k]? = some c):=hTk
       have HRC:Hid (R c=dnL l c):=HK.out.rest c hcl (fun ⟨p,hp,he⟩=>HK.out.nd p k c hp he hTk)
       obtain ⟨fo', ac', e,hfi, -, -⟩:=HT.out.ints
       cases e
       obtain ⟨fb,foff,rfl, -,cF⟩:=hfi.get hlt
       rw [ofN_at hlt,← hc] at cF
       obtain ⟨nb,noff,xo,xc,rfl,n0,n1,n2,n3,n4,n5,n6⟩:=HL.out wr hw c hcl
       have CN:=next_any n5
       have HDB:Hid (∀ z∈downL l[c],0≤z∧z<(l.length:Int)):=HI.out c hcl
       have dl:(downL l[c]).length≤1000:=by have:=HW.out _ (List.getElem_mem hcl);unfold downL;split <;> (simp;try omega)
       have HRD:Hid (R c=downL l[c]):=by show _=_;rw [HRC.out];exact HDD.out c hcl
       have HN6:Hid (∀ x,xo=some x→l[c].2.1≠[]→x.block<w.heap.size):=n6
       generalize downL l[c]=D at *
       clear n5 n6 hfi hc hTk HRC
       go_upto_region 22 with (first | (go_at_call 65;refine CN.mono ?_;rintro e w3 ⟨bo,bc,rfl,hD,hbo,k3⟩))
       have hw3:=hw.trans' k3
       have HR3:Hid (LdAt w3 lb N lead):=k3.row HR.out (fun _ _ f=>f)
       have HT3:Hid (Row (lb+1) w3 (.slice (some ⟨fb,foff,none⟩) (ofN T).length tc) (ofN T)):=k3.row HT.out (fun _ _ f=>f)
       have HDA:Hid (DAt w3 lb bo D∧∀ x,bo=some x→D≠[]→(Value.slice (some ⟨fb,foff,none⟩) (ofN T).length tc).ownBlock≠some x.block):=by
        have h1:=k3.size
        have h3:=hw.size
        have hfb:=HT.out.lt fb rfl
        have hne:(Value.slice (some ⟨fb,foff,none⟩) (ofN T).length tc).ownBlock=some fb:=rfl
        refine ⟨⟨hD,fun x e h0=>?_⟩,fun x e h0 t=>?_⟩
        ·rcases hbo x e with ⟨q,q'⟩ | ⟨q1,q2⟩
         ·have:=HN6.out x q (by rw [← q'];exact h0);exact ⟨by omega,by omega⟩
         ·exact ⟨q2,by omega⟩
        ·rw [hne] at t
         have t' : fb=x.block:=Option.some.inj t
         rcases hbo x e with ⟨q,q'⟩ | ⟨q1,q2⟩
         ·have:=HN6.out x q (by rw [← q'];exact h0);omega
         ·omega
       have hlb3:lb<w3.heap.size:=Nat.lt_of_lt_of_le hlb1 k3.size
       have HK3:Hid (Kh l (fun a=>∃ p:Nat,p<k+1∧T[p]? = some a) R lead T):=HK.out.more (fun a ⟨p,hp,he⟩=>⟨p,by omega,he⟩) (fun a ⟨p,hp,he⟩=>List.mem_of_getElem? he)
       clear CN n0 n1 n2 n3 n4 hD hbo k3 cF
       go_loopw [8,67] (fun f c' wr2=>∃ (q:Nat) (T' : List Nat) (lead' : List Int) (R' : Nat→List Int),c' = .int .i64 (q:Int)∧q≤D.length∧Hid (LdAt wr2 lb N lead')∧Hid (Row (lb+1) wr2 f (ofN T'))∧Hid (Kh l (fun a=>∃ p:Nat,p<k+1∧T[p]? = some a) R' lead' T')∧Hid (R' c=D.drop q)∧Hid (∀ p a:Nat,p<k→T[p]? = some a→R' a=[])∧Hid (∀ p:Nat,p<k+1→T'[p]? = T[p]?)∧Hid (∀ (b:Nat) (v:Int),lead'[b]? = some v→0≤v∧v≤24006)∧Hid (DAt wr2 lb bo D∧∀ x,bo=some x→D≠[]→f.ownBlock≠some x.block)∧Same0 w wr2∧lb<wr2.heap.size) (fun _ c' _=>D.length-(intOf c').toNat)
       case atStart=>exact ⟨0,T,lead,R,rfl,Nat.zero_le _,HR3,HT3,HK3,by (show _=_);rw [HRD.out];rfl,HE,fun p _=>rfl,HBD,HDA,hw3,hlb3⟩
       case round=>
        clear HR3 HT3 HK3 HDA hw3 hlb3 HR HT HK HRD HE HBD hw hlb1
        obtain ⟨q,T', lead', R', rfl,hq,HR', HT', HK', HC', HE', HX', HB', HA', hw', hlb'⟩:=hrel
        obtain ⟨vo,vc,rfl⟩:=row_shape HT'.out
        have hTN' : (ofN T').length≤N:=by rw [ofN_len', HNE.out];exact HK'.out.le
        by_cases hql:q<D.length
        ·have q0:(0:Int)≤(q:Int):=by omega
         have q1:(q:Int)<(D.length:Int):=by omega
         have hD0:Hid (D≠[]):=fun q=>by rw [q] at hql;simp at hql
         obtain ⟨db,doff,rfl, -,cD⟩:=HA'.out.1.1.get hql
         have hz:=HDB.out _ (List.getElem_mem hql)
         obtain ⟨b,hb⟩:∃ b:Nat,D[q]=(b:Int):=⟨D[q].toNat,by omega⟩
         have hbl:b<l.length:=by omega
         have hbN:b<N:=by rw [HNE.out];exact hbl
         have q2:(0:Int)≤(b:Int):=by omega
         have q3:(b:Int)<(N:Int):=by omega
         have hPc:∃ p:Nat,p<k+1∧T[p]? = some c:=⟨k,by omega,HTK.out⟩
         have hRq:R' c=(b:Int) :: D.drop (q+1):=by rw [HC'.out,List.drop_eq_getElem_cons hql,hb]
         obtain ⟨v,e1,e2,e3⟩:=HK'.out.strike hPc hRq hbl
         obtain ⟨v', m0,m1,m2⟩:=row_int HR'.out hbN
         rw [e1] at m0
         cases m0
         have hv:=(HB'.out b v e1).2
         have HC4:Hid (lose R' c (D.drop (q+1)) c=D.drop (q+1)):=by show _=_;unfold lose;rw [if_pos rfl]
         have HE4:Hid (∀ p a:Nat,p<k→T[p]? = some a→lose R' c (D.drop (q+1)) a=[]):=fun p a hp he=>by
          have hne:a≠c:=fun e=>by
           subst e
           have h1:=HX'.out p (by omega)
           have h2:=HX'.out k (by omega)
           rw [he] at h1
           rw [HTK.out] at h2
           exact HK'.out.nd p k a hp h1 h2
          unfold lose;rw [if_neg hne];exact HE'.out p a hp he
         have HB4:Hid (∀ (j:Nat) (u:Int),(lead'.set b (v-1))[j]? = some u→0≤u∧u≤24006):=fun j u hu=>by
          rw [List.getElem?_set] at hu
          split at hu
          ·split at hu
           ·cases hu;omega
           ·cases hu
          ·exact HB'.out j u hu
         obtain ⟨P1,P2,P3⟩:=HR'.out.put hw' hlo b (v-1)
         have HP1:Hid (LdAt (wr.setCell ⟨lb,b,none⟩ (.int .i64 (v-1))) lb N (lead'.set b (v-1))):=P1
         have RW:Row (lb+1) (wr.setCell ⟨lb,b,none⟩ (.int .i64 (v-1))) (.slice vo (ofN T').length vc) (ofN T'):=P3.row HT'.out (fun i e t=>by have:=(HT'.out.lt i e).1;omega)
         have HPA:Hid (DAt (wr.setCell ⟨lb,b,none⟩ (.int .i64 (v-1))) lb (some ⟨db,doff,none⟩) D):=⟨HA'.out.1.1.kept P3 (fun x e t=>(HA'.out.1.2 x e hD0.out).2 t),fun x e h0=>⟨Nat.lt_of_lt_of_le (HA'.out.1.2 x e h0).1 P3.size,(HA'.out.1.2 x e h0).2⟩⟩
         have hlb4:lb<(wr.setCell ⟨lb,b,none⟩ (.int .i64 (v-1))).heap.size:=Nat.lt_of_lt_of_le hlb' P3.size
         have esz:(wr.setCell ⟨lb,b,none⟩ (.int .i64 (v-1))).heap.size=wr.heap.size:=by simp [World.setCell]
         have HA2:Hid (∀ x,some (⟨db,doff,none⟩:Addr)=some x→D≠[]→(Value.slice vo (ofN T').length vc).ownBlock≠some x.block):=HA'.out.2
         rw [hb] at cD
         rcases e3 with ⟨e4,e5⟩ | ⟨e4,e5⟩
         ·have HK4:Hid (Kh l (fun a=>∃ p:Nat,p<k+1∧T[p]? = some a) (lose R' c (D.drop (q+1))) (lead'.set b (v-1)) (T' ++ [b])):=e5
          have hbs:lb+1≤(wr.setCell ⟨lb,b,none⟩ (.int .i64 (v-1))).heap.size:=hlb4
          have hv1:v=1:=by omega
          have HX4:Hid (∀ p:Nat,p<k+1→(T' ++ [b])[p]? = T[p]?):=fun p hp=>by
           have h2:=HX'.out k (by omega)
           rw [HTK.out] at h2
           have h3:=(List.getElem?_eq_some_iff.1 h2).1
           rw [List.getElem?_append_left (by omega)];exact HX'.out p hp
          subst hv1
          clear hb hz e1 e2 e4 e5 P1 P3 hRq hPc
          go_wp2_with (first | (at_builtin;refine wpList_pushN rfl _ _ 31 rfl Try.underlying31 (lb+1) (ofN T') _ rfl RW (b:Int) _ esz rfl hbs (by omega) ?_;intro g4 cap4 w4 hr4 hk4 hor))
          have HR4:Hid (LdAt w4 lb N (lead'.set b (1-1))):=hk4.row HP1.out (fun i e t=>by
           have h1:=(RW.lt i t).1
           have h2:lb=i:=Option.some.inj e
           omega)
          have HT4:Hid (Row (lb+1) w4 (.slice (some ⟨g4,0,none⟩) ((ofN T').length+1) cap4) (ofN (T' ++ [b]))):=by show Row _ _ _ _;rw [ofN_snoc];exact hr4
          have hw4:Same0 w w4:=P2.trans hk4 (fun i hi e=>by have:=(RW.lt i e).1;omega)
          have hlb5:lb<w4.heap.size:=Nat.lt_of_lt_of_le hlb4 hk4.size
          have HD4:Hid (DAt w4 lb (some ⟨db,doff,none⟩) D∧∀ x,some (⟨db,doff,none⟩:Addr)=some x→D≠[]→(Value.slice (some ⟨g4,0,none⟩) ((ofN T').length+1) cap4).ownBlock≠some x.block):=by
           refine ⟨⟨HPA.out.1.kept hk4 (fun x e t=>HA2.out x e hD0.out t),fun x e h0=>⟨Nat.lt_of_lt_of_le (HPA.out.2 x e h0).1 hk4.size,(HPA.out.2 x e h0).2⟩⟩,fun x e h0 t=>?_⟩
           cases e
           have t' : g4=db:=by simpa [Value.ownBlock] using t
           rcases hor with q' | q'
           ·rw [t'] at q'; exact HA2.out _ rfl h0 q'
           ·have h9:db<(wr.setCell ⟨lb,b,none⟩ (.int .i64 (1-1))).heap.size:=(HPA.out.2 ⟨db,doff,none⟩ rfl h0).1
            have h10:(wr.setCell ⟨lb,b,none⟩ (.int .i64 (1-1))).heap.size=(wr.setCell ⟨lb,b,none⟩ (.int .i64 0)).heap.size:=rfl
            omega
          clear hr4 hk4 hor RW
          go_roundw
          case rel=>exact ⟨q+1,T' ++ [b],_,_,by go_num,by omega,HR4,HT4,HK4,HC4,HE4,HX4,HB4,HD4,hw4,hlb5⟩
          case measure=>simp [intOf];omega
         ·have HK4:Hid (Kh l (fun a=>∃ p:Nat,p<k+1∧T[p]? = some a) (lose R' c (D.drop (q+1))) (lead'.set b (v-1)) T'):=e5
          have hv1:¬ v-1=0:=by omega
          have HRW:Hid (Row (lb+1) (wr.setCell ⟨lb,b,none⟩ (.int .i64 (v-1))) (.slice vo (ofN T').length vc) (ofN T')):=RW
          have HD4:Hid (DAt (wr.setCell ⟨lb,b,none⟩ (.int .i64 (v-1))) lb (some ⟨db,doff,none⟩) D∧∀ x,some (⟨db,doff,none⟩:Addr)=some x→D≠[]→(Value.slice vo (ofN T').length vc).ownBlock≠some x.block):=⟨HPA.out,HA2.out⟩
          clear hb hz e1 e5 P1 P3 hRq hPc RW
          go_wp2
          go_roundw
          case rel=>exact ⟨q+1,T', _,_,by go_num,by omega,HP1,HRW,HK4,HC4,HE4,HX', HB4,HD4,P2,hlb4⟩
          case measure=>simp [intOf];omega
        ·obtain rfl:q=D.length:=by omega
         have HKN:Hid (Kh l (fun a=>∃ p:Nat,p<k+1∧T'[p]? = some a) R' lead' T'):=HK'.out.more (fun a ⟨p,hp,he⟩=>⟨p,hp,by rw [HX'.out p hp];exact he⟩) (fun a ⟨p,hp,he⟩=>List.mem_of_getElem? he)
         have HEN:Hid (∀ p a:Nat,p<k+1→T'[p]? = some a→R' a=[]):=fun p a hp he=>by
          rw [HX'.out p hp] at he
          by_cases e:p=k
          ·subst e
           rw [HTK.out] at he
           cases he
           rw [HC'.out];simp
          ·exact HE'.out p a (by omega) he
         have hkT' : k+1≤(ofN T').length:=by
          have h2:=HX'.out k (by omega)
          rw [HTK.out] at h2
          have h3:=(List.getElem?_eq_some_iff.1 h2).1
          rw [ofN_len'];omega
         go_wp2
         go_roundw
         case rel=>exact ⟨k+1,T', lead', R', by go_num,hkT', HR', HT', HKN,HEN,HB', hw', hlb'⟩
         case measure=>simp [intOf];omega
      ·obtain rfl:k=(ofN T).length:=by omega
       have HD:Hid (T.length<l.length ↔ ¬ Ac l):=HK.out.done HI.out (fun a ha=>by
        obtain ⟨p,hp,hx⟩:=List.mem_iff_getElem.1 ha
        exact HE.out p a (by rw [ofN_len'];exact hp) (by rw [List.getElem?_eq_getElem hp,hx]))
       have HNT:Hid ((decide ((ofN T).length<N)=true) ↔ ¬ Ac l):=by
        have h1:=HD.out
        have h2:=HNE.out
        have h3:=ofN_len' T
        exact ⟨fun q=>h1.1 (by have:=of_decide_eq_true q;omega),fun q=>decide_eq_true (by have:=h1.2 q;omega)⟩
       clear hlt
       go_wp2
       go_ret
       exact ⟨_,rfl,HNT.out,hw⟩
set_option maxHeartbeats 300000 in
theorem isApp_any {w:World} {x:Nd} {ao:Option Addr} {ac:Nat} (hx:Arg w ao x.2.1 ac) (hp:x.2.2.2.1=false) (n:Nat) :
  Calls Try.prog 69 #[nodeV x ao ac,.int .i64 (n:Int)] w fun e w' => e=.returned (.bool (mayB n x))∧Same0 w w' := by
 obtain ⟨W0,hW0⟩:∃ W0,W0=w.alloc (.cells #[.int .i64 x.1,.slice ao x.2.1.length ac,.int .i64 x.2.2.1,.bool x.2.2.2.1,.int .i64 x.2.2.2.2] 47):=⟨_,rfl⟩
 have k0:Same0 w W0:=by rw [hW0];exact (Kept.refl _ w).alloc _
 obtain ⟨b0,b1,b2,b3,b4⟩:=box_node' w x ao ac (show Same0 _ W0 by rw [hW0];exact Kept.refl _ _)
 have HE:Hid (mayB n x=(decide (0≤x.1) && decide (x.2.1.length≤6) && insB (n:Int) x.2.1 && isMk x.2.2.1 && decide (x.2.2.2.2=0))):=may_app hp
 have hsz:=hx.size
 have CI:Hid (x.2.1.length≤6→Calls Try.prog 49 #[.int .i64 (n:Int),.slice ao x.2.1.length ac] W0 fun e w' => e=.returned (.bool (insB (n:Int) x.2.1))∧w' = W0):=fun h6=>inside_any ac (hx.at'.same k0) (by omega) (n:Int)
 have CM:=isMark_any x.2.2.1 W0
 have K0:Hid (Same0 w W0):=k0
 clear k0 hp hx
 generalize mayB n x=R at *
 generalize insB (n:Int) x.2.1=I at *
 generalize isMk x.2.2.1=M at *
 by_cases h1:0≤x.1
 ·by_cases h2:x.2.1.length≤6
  ·have C:=CI.out h2
   have h2' : (x.2.1.length:Int)≤6:=by omega
   cases I
   ·have HR:Hid (R=false):=by show _=_;rw [HE.out];simp
    clear HE CI
    go_enter Try.func69,Try.ntmps69
    go_upto_region 1 with fail
    rw [← hW0]
    clear hW0
    go_wp2_with (first | (go_at_call 49;refine C.mono ?_;rintro e w3 ⟨rfl,h3⟩;have h3:=h3.symm;subst h3))
    go_ret
    exact ⟨ret_bool HR.out.symm,K0.out⟩
   ·cases M
    ·have HR:Hid (R=false):=by show _=_;rw [HE.out];simp
     clear HE CI
     go_enter Try.func69,Try.ntmps69
     go_upto_region 1 with fail
     rw [← hW0]
     clear hW0
     go_wp2_with (first | (go_at_call 49;refine C.mono ?_;rintro e w3 ⟨rfl,h3⟩;have h3:=h3.symm;subst h3) | (go_at_call 59;refine CM.mono ?_;rintro e w3 ⟨rfl,h3⟩;have h3:=h3.symm;subst h3))
     go_ret
     exact ⟨ret_bool HR.out.symm,K0.out⟩
    ·have HR:Hid (R=decide (x.2.2.2.2=0)):=by show _=_;rw [HE.out];simp [h1,h2]
     clear HE CI
     go_enter Try.func69,Try.ntmps69
     go_upto_region 1 with fail
     rw [← hW0]
     clear hW0
     go_wp2_with (first | (go_at_call 49;refine C.mono ?_;rintro e w3 ⟨rfl,h3⟩;have h3:=h3.symm;subst h3) | (go_at_call 59;refine CM.mono ?_;rintro e w3 ⟨rfl,h3⟩;have h3:=h3.symm;subst h3))
     go_ret
     exact ⟨ret_bool (by rw [HR.out];rw [Bool.eq_iff_iff];simp),K0.out⟩
  ·have HR:Hid (R=false):=by show _=_;rw [HE.out];simp [h2]
   have h2' : ¬ (x.2.1.length:Int)≤6:=by omega
   clear HE CI
   go_enter Try.func69,Try.ntmps69
   go_upto_region 1 with fail
   rw [← hW0]
   clear hW0
   go_wp2
   go_ret
   exact ⟨ret_bool HR.out.symm,K0.out⟩
 ·have HR:Hid (R=false):=by show _=_;rw [HE.out];simp [h1]
  clear HE CI
  go_enter Try.func69,Try.ntmps69
  go_upto_region 1 with fail
  rw [← hW0]
  clear hW0
  go_wp2
  go_ret
  exact ⟨ret_bool HR.out.symm,K0.out⟩
set_option maxHeartbeats 300000 in
theorem isInd_any {w:World} {x:Nd} {ao:Option Addr} {ac:Nat} (hx:Arg w ao x.2.1 ac) (hp:x.2.2.2.1=true) (n:Nat) :
  Calls Try.prog 68 #[nodeV x ao ac,.int .i64 (n:Int)] w fun e w' => e=.returned (.bool (mayB n x))∧Same0 w w' := by
 obtain ⟨W0,hW0⟩:∃ W0,W0=w.alloc (.cells #[.int .i64 x.1,.slice ao x.2.1.length ac,.int .i64 x.2.2.1,.bool x.2.2.2.1,.int .i64 x.2.2.2.2] 47):=⟨_,rfl⟩
 have k0:Same0 w W0:=by rw [hW0];exact (Kept.refl _ w).alloc _
 obtain ⟨b0,b1,b2,b3,b4⟩:=box_node' w x ao ac (show Same0 _ W0 by rw [hW0];exact Kept.refl _ _)
 have HE:Hid (mayB n x=(decide (x.1=0) && decide (x.2.1.length=0) && decide (x.2.2.1=0) && insB (n:Int) [x.2.2.2.2])):=may_indir hp
 have hsz:=hx.size
 have CI:=inside_any 1 (ints_one W0 x.2.2.2.2) (by simp) (n:Int)
 have K0:Hid (Same0 w W0):=k0
 have K1:Hid (Same0 w (W0.alloc (.cells #[.int .i64 x.2.2.2.2] 3))):=k0.alloc _
 clear k0 hp hx
 generalize mayB n x=R at *
 generalize insB (n:Int) [x.2.2.2.2]=I at *
 by_cases h1:x.1=0
 ·by_cases h2:x.2.1.length=0
  ·by_cases h3:x.2.2.1=0
   ·have HR:Hid (R=I):=by show _=_;rw [HE.out];simp [h1,h2,h3]
    rw [h1] at b0
    rw [h2] at b1
    rw [h3] at b2
    clear HE h1 h2 h3
    go_enter Try.func68,Try.ntmps68
    go_upto_region 1 with fail
    rw [← hW0]
    clear hW0
    go_wp2_with (first | (go_at_call 49;refine CI.mono ?_;rintro e w3 ⟨rfl,rfl⟩))
    go_ret
    exact ⟨ret_bool HR.out.symm,K1.out⟩
   ·have HR:Hid (R=false):=by show _=_;rw [HE.out];simp [h3]
    rw [h1] at b0
    rw [h2] at b1
    clear HE h1 h2
    go_enter Try.func68,Try.ntmps68
    go_upto_region 1 with fail
    rw [← hW0]
    clear hW0
    go_wp2
    go_ret
    exact ⟨ret_bool HR.out.symm,K0.out⟩
  ·have HR:Hid (R=false):=by show _=_;rw [HE.out];simp;intro _ h;rw [h] at h2;simp at h2
   have h2' : ¬ (x.2.1.length:Int)=0:=by omega
   rw [h1] at b0
   clear HE h1
   go_enter Try.func68,Try.ntmps68
   go_upto_region 1 with fail
   rw [← hW0]
   clear hW0
   go_wp2
   go_ret
   exact ⟨ret_bool HR.out.symm,K0.out⟩
 ·have HR:Hid (R=false):=by show _=_;rw [HE.out];simp [h1]
  clear HE
  go_enter Try.func68,Try.ntmps68
  go_upto_region 1 with fail
  rw [← hW0]
  clear hW0
  go_wp2
  go_ret
  exact ⟨ret_bool HR.out.symm,K0.out⟩
set_option maxHeartbeats 300000 in
theorem shaped_any {w:World} {ao:Option Addr} {ac:Nat} {l:List Nd} (h:NsW w ao l) (hN:l.length≤4000) :
  Calls Try.prog 60 #[.slice ao l.length ac] w fun e w' => e=.returned (.bool (l.all (mayB l.length)))∧Same0 w w' := by
 have HL:Hid (∀ ww,Same0 w ww→NsW ww ao l):=fun ww hk=>h.same hk
 have KR:Same0 w w:=Kept.refl _ _
 have HNO:Hid (∀ k (hk:k<l.length),mayB l.length l[k]=false→l.all (mayB l.length)=false):=fun k hk e=>by
  rw [Bool.eq_false_iff]
  intro q
  rw [List.all_eq_true] at q
  rw [q _ (List.getElem_mem hk)] at e
  cases e
 clear h
 go_enter Try.func60,Try.ntmps60
 go_wp2
 go_loopw [7] (fun i wr=>∃ (k:Nat),i=.int .i64 (k:Int)∧k≤l.length∧Hid (∀ j (hj:j<l.length),j<k→mayB l.length l[j]=true)∧Same0 w wr) (fun i _=>l.length-(intOf i).toNat)
 case atStart=>exact ⟨0,rfl,Nat.zero_le _,fun j _ hj=>absurd hj (Nat.not_lt_zero _),KR⟩
 case round=>
  clear KR
  obtain ⟨k,rfl,hk,hall,hw⟩:=hrel
  by_cases hlt:k<l.length
  ·have j1:(k:Int)<(l.length:Int):=by omega
   have j2:(0:Int)≤(k:Int):=by omega
   rcases HL.out wr hw with e | ⟨nb,noff,e,hnb,hn⟩
   ·subst e;simp at hlt
   subst e
   obtain ⟨xo,xc,n0,n1,n2,n3,n4,n5⟩:=hn k hlt
   obtain ⟨W3,hW3⟩:∃ W3,W3=wr.alloc (.cells #[.int .i64 l[k].1,.slice xo l[k].2.1.length xc,.int .i64 l[k].2.2.1,.bool l[k].2.2.2.1,.int .i64 l[k].2.2.2.2] 47):=⟨_,rfl⟩
   have kb:Same0 wr W3:=by rw [hW3];exact (Kept.refl _ _).alloc _
   obtain ⟨x0,x1,x2,x3,x4⟩:=box_node' wr l[k] xo xc (show Same0 _ W3 by rw [hW3];exact Kept.refl _ _)
   have n6:=n5.onto kb
   have HBX:Hid (∀ ww,Same0 W3 ww→ww.cell? ⟨wr.heap.size,3,none⟩=some (.bool l[k].2.2.2.1)):=fun ww hk=>(box_node' wr l[k] xo xc (by rw [hW3] at hk;exact hk)).2.2.2.1
   have HN:=HNO.out k hlt
   have HKW:Hid (∀ ww,Same0 W3 ww→Same0 w ww):=fun ww hk=>(hw.trans' kb).trans' hk
   have HY:Hid (mayB l.length l[k]=true→Hid (∀ j (hj:j<l.length),j<k+1→mayB l.length l[j]=true)):=fun e j hj hjk=>by
    by_cases q:j=k
    ·subst q;exact e
    ·exact hall.out j hj (by omega)
   clear n5 kb hn hall
   generalize l[k]=y at *
   obtain ⟨ys,ya,ym,yp,yt⟩:=y
   simp only at *
   cases yp
   ·have CA:=isApp_any (x:=(ys,ya,ym,false,yt)) n6 rfl l.length
    clear n6
    generalize mayB l.length (ys,ya,ym,false,yt)=M at *
    go_upto_region 4 with fail
    rw [← hW3]
    clear hW3 n0 n1 n2 n3 n4
    cases M
    ·have HF:Hid (l.all (mayB l.length)=false):=HN rfl
     clear HN
     go_wp2_with (first | (go_at_call 69;refine CA.mono ?_;rintro e w5 ⟨rfl,k5⟩;have z3:=HBX.out w5 k5))
     go_ret
     exact ⟨ret_bool HF.out.symm,HKW.out _ k5⟩
    ·have HY2:=HY.out (by first | rfl | trivial)
     clear HN HY
     go_wp2_with (first | (go_at_call 69;refine CA.mono ?_;rintro e w5 ⟨rfl,k5⟩;have z3:=HBX.out w5 k5))
     have hw5:=HKW.out _ k5
     go_roundw
     case rel=>exact ⟨k+1,by go_num,by omega,HY2,hw5⟩
     case measure=>simp [intOf];omega
   ·have CA:=isInd_any (x:=(ys,ya,ym,true,yt)) n6 rfl l.length
    clear n6
    generalize mayB l.length (ys,ya,ym,true,yt)=M at *
    go_upto_region 4 with fail
    rw [← hW3]
    clear hW3 n0 n1 n2 n3 n4
    cases M
    ·have HF:Hid (l.all (mayB l.length)=false):=HN rfl
     clear HN
     go_wp2_with (first | (go_at_call 68;refine CA.mono ?_;rintro e w5 ⟨rfl,k5⟩;have z3:=HBX.out w5 k5))
     go_ret
     exact ⟨ret_bool HF.out.symm,HKW.out _ k5⟩
    ·have HY2:=HY.out (by first | rfl | trivial)
     clear HN HY
     go_wp2_with (first | (go_at_call 68;refine CA.mono ?_;rintro e w5 ⟨rfl,k5⟩;have z3:=HBX.out w5 k5))
     have hw5:=HKW.out _ k5
     go_roundw
     case rel=>exact ⟨k+1,by go_num,by omega,HY2,hw5⟩
     case measure=>simp [intOf];omega
  ·obtain rfl:k=l.length:=by omega
   have HF:Hid (l.all (mayB l.length)=true):=List.all_eq_true.2 (fun x hx=>by
    obtain ⟨j,hj,rfl⟩:=List.mem_iff_getElem.1 hx
    exact hall.out j hj hj)
   clear hall
   go_wp2
   go_ret
   exact ⟨ret_bool HF.out.symm,hw⟩
def RfE (room:Nat) (l:List Nd) (e:Int):Prop:=
 (room<l.length∧e=111)∨(l.length≤room∧l.all (mayB l.length)=false∧e=114)∨(l.length≤room∧l.all (mayB l.length)=true∧¬ Ac l∧e=113)∨(l.length≤room∧l.all (mayB l.length)=true∧Ac l∧e=0)
theorem RfE.uniq {room:Nat} {l:List Nd} {e e' : Int} (h:RfE room l e) (h' : RfE room l e'):e=e' := by
 rcases h with ⟨a,b⟩ | ⟨a,b,c⟩ | ⟨a,b,c,d⟩ | ⟨a,b,c,d⟩ <;> rcases h' with ⟨a', b'⟩ | ⟨a', b', c'⟩ | ⟨a', b', c', d'⟩ | ⟨a', b', c', d'⟩ <;> first | omega | exact absurd c' c | exact absurd c c' | (rw [b] at b'; cases b'; done)
theorem few_of_may {l:List Nd} (h:l.all (mayB l.length)=true):(∀ x∈l,mayB l.length x=true)∧InL l∧∀ x∈l,x.2.1.length≤6:=by
 have h1:∀ x∈l,mayB l.length x=true:=List.all_eq_true.1 h
 exact ⟨h1,inl_of_may h1,fun x hx=>(may_facts (h1 x hx)).2.1⟩
end Go.Proofs.Ytmloedlkoijfbaa
