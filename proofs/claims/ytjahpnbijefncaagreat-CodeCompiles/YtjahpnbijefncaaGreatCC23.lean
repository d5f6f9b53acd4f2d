import Derived.WalkKit
import Derived.Test.YtjahpnbijefncaaGreatCC22
namespace Go.Proofs.YtjahpnbijefncaaGreat
set_option maxRecDepth 100000
set_option linter.unusedVariables false
set_option maxHeartbeats 32000000
section
open Go.RowKit
attribute [local go_sem ↓] Go.wp_at_zero Go.wp_at_succ
structure Zfr (w wr:World) (ov:Value) (ao:Option Addr) (args:List Int) (out:List Int):Prop where
 row:Row w.heap.size wr ov out
 at' : Zh wr ao args
 ne:∀ a,ao=some a->ov.ownBlock≠some a.block
 lt:∀ a,ao=some a->a.block<wr.heap.size
 s:Za w wr
theorem Zfr.push {w wr w' : World} {ov:Value} {ao:Option Addr} {args out:List Int} {g cap:Nat} {x:Int} (h:Zfr w wr ov ao args out) (hr:Row w.heap.size w' (.slice (some ⟨g,0,none⟩) (out.length+1) cap) (out ++ [x])) (hk:Zc (λ k=>ov.ownBlock=some k) wr w') (hat:ov.ownBlock=some g∨wr.heap.size<=g) :
  Zfr w w' (.slice (some ⟨g,0,none⟩) (out.length+1) cap) ao args (out ++ [x]):=by
 refine ⟨hr,h.at'.kept hk (λ a e=>h.ne a e),?_,λ a e=>Nat.lt_of_lt_of_le (h.lt a e) hk.size,h.s.onto h.row hk⟩;intro a e e';simp only [Value.ownBlock,Option.some.injEq] at e'
 rcases hat with e1 | e1
 ·exact h.ne a e (by rw [e1,e'])
 ·have:=h.lt a e;omega
theorem Zkg (i a:Nat) (st:List (Nat × Nat)):Zx ((i,a) :: st)=Zx st ++ [(i:Int)]:=by simp [Zx,ofN]
theorem Zde {n:Nat} {w:World} {rv:Value} {L:List Sym} (h:Rl n w rv L) {ao:Option Addr} {cap:Nat} {t:List Int} (ht:Zh w ao t) (hm:t.length<=2000) (hT:IsT L t) (p:Nat) (hp:p<t.length) :
  Calls Tryz.prog 87 #[rv,.slice ao t.length cap,.int .i64 (p:Int)] w λ e w' => ∃ v,e=.returned v∧Row w.heap.size w' v (Zx (way L t p))∧Za w w' := by
 have c1:Hid (∀ w1 q,Za w w1->q<t.length->Calls Tryz.prog 66 #[rv,.slice ao t.length cap,.int .i64 (q:Int)] w1 λ e w' => ∃ v,e=.returned v∧Row w1.heap.size w' v (ofN (Zz L t q))∧Za w1 w'):=λ w1 q hk hq=>Zbn (cap:=cap) (h.same hk) (ht.same hk) hm hT q hq;have c2:Hid (∀ w1 q,Za w w1->q<t.length->Calls Tryz.prog 67 #[rv,.slice ao t.length cap,.int .i64 (q:Int)] w1 λ e w' => e=.returned (.int .i64 (Zq L t q:Int))∧w' = w1):=λ w1 q hk hq=>Zgp (cap:=cap) (h.same hk) (ht.same hk) hm q (by omega);have HAR:Hid (∀ x,arN L x<=6):=λ x=>Xp h.2.2.1 x;obtain ⟨ro,rcap,rfl⟩:=Zf h.1
 go_enter Tryz.func87,Tryz.ntmps87
 go_wp2
 go_loopw [7,8] (λ ov hv wr=>∃ h:Nat,hv=.int .i64 (h:Int)∧h<=p∧p<Zq L t h∧Row w.heap.size wr ov (Zx (way L t h))∧Za w wr) (λ _ hv _=>p-(intOf hv).toNat)
 case atStart=>exact ⟨0,rfl,Nat.zero_le _,by rw [Zdo hT];exact hp,World.ownsRow_nil _ _ _ _,Zc.refl _ _⟩
 case round=>
  obtain ⟨q0,rfl,hq1,hq2,hr,hs⟩:=hrel;obtain ⟨oo,ocap,rfl⟩:=Zf hr
  by_cases hlt:q0<p
  ·have hq0:q0<t.length:=by omega
   obtain ⟨i0,hi0,g1,g2,g3,g4,g5,g6⟩:=kid_in hT hq0 hlt hq2;have cA:=c1.out wr q0 hs hq0;have h6:=HAR.out t[q0];have hlen:(ofN (Zz L t q0)).length=arN L t[q0]:=by rw [Ya hq0];simp [ofN,Zl]
   have HG:Hid (∀ j,j<arN L t[q0]->(ofN (Zz L t q0))[j]? = some ((past L t j (q0+1):Nat):Int)∧past L t j (q0+1)<t.length):=λ j hj=>by
    have e1:=Za9 (L:=L) (t:=t) (p:=q0+1) hj;rw [<- Ya hq0] at e1;exact ⟨by simp [ofN,e1],Zoy hT hq0 hj⟩
   have EW:Hid (Zx (way L t (past L t i0 (q0+1)))=Zx (way L t q0) ++ [(i0:Int)]):=by show _=_;rw [g5,Zkg]
   have HU:Hid (∀ j,j<arN L t[q0]->(past L t j (q0+1)<=p∧p<Zq L t (past L t j (q0+1)) ↔ j=i0)):=g6;have hwl:(Zx (way L t q0)).length<=2000:=by rw [Y6];have:=Vr L t q0 (by omega);omega
   have hltI:(q0:Int)<(p:Int):=by omega
   clear g5 g6
   go_wp2_with fail
   refine cA.mono ?_;rintro e w2 ⟨va,rfl,ra,k2⟩;obtain ⟨aao,acap,rfl,ia,_,hab⟩:=ra.ints
   have S0:Zfr w w2 (.slice oo (Zx (way L t q0)).length ocap) aao (ofN (Zz L t q0)) (Zx (way L t q0)):=by
    refine ⟨Zc.row k2 hr (λ _ _ f=>f),ia,?_,λ a e=>(hab a e).2,hs.trans' k2⟩;intro a e e';have:=(hr.lt _ e').2;have:=(hab a e).1;omega
   clear cA ra ia hab hr hs k2;obtain ⟨A,hA⟩:∃ A,A=arN L t[q0]:=⟨_,rfl⟩;rw [<- hA] at hlen HG HU hi0 h6;generalize hargs:ofN (Zz L t q0)=args at *;rw [hlen];clear hargs hA;generalize hW:Zx (way L t q0)=W0 at *;have g1I:¬ (p:Int)<(past L t i0 (q0+1):Int):=by omega
   go_wp2;obtain ⟨wo,rfl⟩:∃ wo:World,wo=wr:=⟨_,rfl⟩
   go_loopw [7,10,11] (λ ov nv kv wr=>∃ k:Nat,k<=A∧kv=.int .i64 (k:Int)∧((k<=i0∧nv=.int .i64 (q0:Int)∧Zfr w wr ov aao args W0)∨(i0<k∧nv=.int .i64 (past L t i0 (q0+1):Int)∧Zfr w wr ov aao args (W0 ++ [(i0:Int)])))) (λ _ _ kv _=>A-(intOf kv).toNat)
   case atStart=>exact ⟨0,Nat.zero_le _,rfl,.inl ⟨Nat.zero_le _,rfl,S0⟩⟩
   case round=>
    clear S0;obtain ⟨k,hkA,rfl,hcase⟩:=hrel
    by_cases hkl:k<A
    ·obtain ⟨hg1,hg2⟩:=HG.out k hkl
     obtain ⟨hgl,hge⟩:=List.getElem?_eq_some_iff.1 hg1;have hu:=HU.out k hkl;have m0:(0:Int)<=(k:Int):=by omega
     have m1:(k:Int)<(A:Int):=by omega
     rcases hcase with ⟨hki,rfl,hS⟩ | ⟨hki,rfl,hS⟩
     ·obtain ⟨ab,aoff,rfl,_,hac⟩:=hS.at'.get hgl
      rw [hge] at hac;have cE:=c2.out wr _ hS.s hg2
      by_cases hke:k=i0
      ·subst hke
       obtain ⟨vo,vcap,rfl⟩:=Zf hS.row;have hPp:((past L t k (q0+1):Nat):Int)<=(p:Int):=by omega
       have hpE:(p:Int)<(Zq L t (past L t k (q0+1)):Int):=by omega
       have hb8:(W0.length+1) * 8<=140737488355328:=by omega
       have hrow:=hS.row;have hss:=hS.s.size;clear hg1 hge hu;have hacs:∀ w', Zc (λ k=>Value.ownBlock (.slice vo W0.length vcap)=some k) wr w' -> w'.cell? ⟨ab,aoff+k,none⟩=some (.int .i64 ((past L t k (q0+1):Nat):Int)):=λ w' hk=>(hk.cell (p:=⟨ab,aoff+k,none⟩) (hS.lt ⟨ab,aoff,none⟩ rfl) (hS.ne ⟨ab,aoff,none⟩ rfl)).trans hac;have HACS:Hid (∀ w', Zc (λ k=>Value.ownBlock (.slice vo W0.length vcap)=some k) wr w' -> w'.cell? ⟨ab,aoff+k,none⟩=some (.int .i64 ((past L t k (q0+1):Nat):Int))):=hacs;clear hacs;generalize past L t k (q0+1)=P at *
       go_wp2_with (first | (go_at_call 67;refine cE.mono ?_;rintro e wr ⟨rfl,rfl⟩) | (at_builtin;refine Yo rfl _ _ 32 rfl Tryz.underlying32 w.heap.size W0 _ rfl hrow (k:Int) rfl hss hb8 ?_;intro g gcap w4 hr4 hk4 hat4;have hS4:=hS.push hr4 hk4 hat4;have hac4:=HACS.out _ hk4))
       go_roundw
       case rel=>first | exact ⟨k+1,by omega,by go_num,.inr ⟨by omega,rfl,hS4⟩⟩ | ((repeat apply Exists.intro);exact ⟨⟨k+1,by omega,by go_num,.inr ⟨by omega,rfl,hS4⟩⟩,rfl⟩)
       case measure=>simp [intOf];omega
      ·have hno:¬ (past L t k (q0+1)<=p∧p<Zq L t (past L t k (q0+1))):=λ e=>hke (hu.1 e)
       obtain ⟨vo,vcap,rfl⟩:=Zf hS.row;clear hg1 hge hu;generalize past L t k (q0+1)=P at *
       by_cases hPp:P<=p
       ·have hPi:((P:Nat):Int)<=(p:Int):=by omega
        have hpE:¬ (p:Int)<(Zq L t P:Int):=by omega
        clear hno
        go_wp2_with (first | (go_at_call 67;refine cE.mono ?_;rintro e wr ⟨rfl,rfl⟩))
        go_roundw
        case rel=>first | exact ⟨k+1,by omega,by go_num,.inl ⟨by omega,rfl,hS⟩⟩ | ((repeat apply Exists.intro);exact ⟨⟨k+1,by omega,by go_num,.inl ⟨by omega,rfl,hS⟩⟩,rfl⟩)
        case measure=>simp [intOf];omega
       ·have hPi:¬ ((P:Nat):Int)<=(p:Int):=by omega
        clear hno cE;go_wp2;go_roundw
        case rel=>first | exact ⟨k+1,by omega,by go_num,.inl ⟨by omega,rfl,hS⟩⟩ | ((repeat apply Exists.intro);exact ⟨⟨k+1,by omega,by go_num,.inl ⟨by omega,rfl,hS⟩⟩,rfl⟩)
        case measure=>simp [intOf];omega
     ·obtain ⟨ab,aoff,rfl,_,hac⟩:=hS.at'.get hgl
      rw [hge] at hac;have cE:=c2.out wr _ hS.s hg2;have hno:¬ (past L t k (q0+1)<=p∧p<Zq L t (past L t k (q0+1))):=λ e=>by have:=hu.1 e;omega
      obtain ⟨vo,vcap,rfl⟩:=Zf hS.row;have hl1:(W0 ++ [(i0:Int)]).length=W0.length+1:=by simp
      rw [hl1] at hS ⊢;clear hl1;clear hg1 hge hu;generalize past L t k (q0+1)=P at *
      by_cases hPp:P<=p
      ·have hPi:((P:Nat):Int)<=(p:Int):=by omega
       have hpE:¬ (p:Int)<(Zq L t P:Int):=by omega
       clear hno
       go_wp2_with (first | (go_at_call 67;refine cE.mono ?_;rintro e wr ⟨rfl,rfl⟩))
       go_roundw
       case rel=>first | exact ⟨k+1,by omega,by go_num,.inr ⟨by omega,rfl,hS⟩⟩ | ((repeat apply Exists.intro);exact ⟨⟨k+1,by omega,by go_num,.inr ⟨by omega,rfl,hS⟩⟩,rfl⟩)
       case measure=>simp [intOf];omega
      ·have hPi:¬ ((P:Nat):Int)<=(p:Int):=by omega
       clear hno cE;go_wp2;go_roundw
       case rel=>first | exact ⟨k+1,by omega,by go_num,.inr ⟨by omega,rfl,hS⟩⟩ | ((repeat apply Exists.intro);exact ⟨⟨k+1,by omega,by go_num,.inr ⟨by omega,rfl,hS⟩⟩,rfl⟩)
       case measure=>simp [intOf];omega
    ·obtain rfl:k=A:=by omega
     rcases hcase with ⟨hki,rfl,hS⟩ | ⟨hki,rfl,hS⟩
     ·omega
     ·obtain ⟨vo,vcap,rfl⟩:=Zf hS.row
      have hrw:=hS.row;have hs9:=hS.s;rw [<- EW.out] at hrw;have hne:((past L t i0 (q0+1):Int) == (q0:Int))=false:=by simp;omega
      have hne' : ¬ (past L t i0 (q0+1):Int)=(q0:Int):=by omega
      have hne'' : ¬ past L t i0 (q0+1)=q0:=by omega
      clear hS;rw [<- EW.out];generalize hPP:past L t i0 (q0+1)=P at *;go_wp2;go_roundw
      case rel=>first | exact ⟨P,rfl,g1,g2,hrw,hs9⟩ | ((repeat apply Exists.intro);exact ⟨⟨P,rfl,g1,g2,hrw,hs9⟩,rfl⟩)
      case measure=>simp [intOf];omega
  ·obtain rfl:q0=p:=by omega
   go_wp2;go_ret;exact ⟨_,rfl,hr,hs⟩
def Zus (base:Nat) (w:World) (vs:List Value) (Q:List (Int × List Int)):Prop:=
 vs.length=Q.length * 2∧∀ i (h:i<Q.length),∃ ao ac,vs[i * 2]? = some (.int .i64 Q[i].1)∧vs[i * 2+1]? = some (.slice ao Q[i].2.length ac)∧Xx w ao Q[i].2 ac∧∀ a,ao=some a->base<=a.block
theorem Zus.kept {base:Nat} {w w' : World} {vs:List Value} {Q:List (Int × List Int)} {S:Nat->Prop} (h:Zus base w vs Q) (hk:Zc S w w') (hS:∀ k,S k->∀ cur,w.heap[k]? ≠ some (.cells cur 3 (0,0))):Zus base w' vs Q:=
 ⟨h.1,λ i hi=>by
  obtain ⟨ao,ac,a,b,c,d⟩:=h.2 i hi
  exact ⟨ao,ac,a,b,c.kept hk hS,d⟩⟩
theorem Zus.snoc {base:Nat} {w:World} {vs:List Value} {Q:List (Int × List Int)} (h:Zus base w vs Q) {ao:Option Addr} {ac:Nat} {x:Int} {p:List Int} (ha:Xx w ao p ac) (hb:∀ a,ao=some a->base<=a.block):Zus base w (vs ++ [.int .i64 x,.slice ao p.length ac]) (Q ++ [(x,p)]):=by
 refine ⟨by simp [h.1];omega,λ i hi=>?_⟩;have h1:=h.1
 by_cases hl:i<Q.length
 ·obtain ⟨bo,bc,a,b,c,d⟩:=h.2 i hl
  rw [List.getElem_append_left hl];refine ⟨bo,bc,?_,?_,c,d⟩
  ·rw [List.getElem?_append_left (by omega)];exact a
  ·rw [List.getElem?_append_left (by omega)];exact b
 ·obtain rfl:i=Q.length:=by simp at hi;omega
  refine ⟨ao,ac,?_,?_,by simpa using ha,hb⟩
  ·rw [List.getElem?_append_right (by omega),h1];simp
  ·rw [List.getElem?_append_right (by omega),h1];simp
def PtV (base:Nat) (w:World) (v:Value) (Q:List (Int × List Int)):Prop:=
 ∃ vs,w.ownsRow base 77 2 v Q.length vs∧Zus base w vs Q
theorem PtV.nil (base:Nat) (w:World):PtV base w (.slice none 0 0) []:=⟨[],World.ownsRow_nil _ _ _ _,rfl,λ i h=>absurd h (by simp)⟩
theorem PtV.same {base:Nat} {w w' : World} {v:Value} {Q:List (Int × List Int)} (h:PtV base w v Q) (hk:Za w w'):PtV base w' v Q:=by
 obtain ⟨vs,h1,h2⟩:=h;exact ⟨vs,hk.row h1 (λ _ _ f=>f),h2.kept hk (λ _ f=>f.elim)⟩
theorem PtV.low {base base' : Nat} {w:World} {v:Value} {Q:List (Int × List Int)} (h:PtV base w v Q) (hb:base' <= base):PtV base' w v Q:=by
 obtain ⟨vs,h1,h2,h3⟩:=h;refine ⟨vs,Yi h1 hb,h2,λ i hi=>?_⟩;obtain ⟨ao,ac,a,b,c,d⟩:=h3 i hi;exact ⟨ao,ac,a,b,c,λ a e=>Nat.le_trans hb (d a e)⟩
theorem PtV.shape {base:Nat} {w:World} {v:Value} {Q:List (Int × List Int)} (h:PtV base w v Q):∃ ao ac,v=.slice ao Q.length ac:=by
 obtain ⟨vs,h1,_⟩:=h;exact Zf h1
theorem Zt2 (w:World):Xx w none [] 0:=⟨⟨.inl rfl,Nat.le_refl _,λ _=>⟨rfl,rfl⟩,by simp⟩,λ a e=>(by cases e),λ a e=>(by cases e)⟩
theorem Zdd {w0:World} {ops:Array Oper} {rest:List Oper} {o:Oper} {a:Act} {Q' : Exit->Act->World->Prop} (hgd:o.guard=none) (s x:Operand)
  (ho:o.op=.call { callee:=.builtin .append,args:=#[s,x],argTypes:=#[62,62] }) (base:Nat) (v:Value) (Q:List (Int × List Int)) (hs:a.eval s=v) (hL:PtV base w0 v Q) (hb:base<=w0.heap.size) (hsz:Q.length<=2000) (x0:Int) (ao:Option Addr) (ac:Nat) (p:List Int) (ha:Xx w0 ao p ac) (hab:∀ a,ao=some a->base<=a.block) (N:Nat) (hN:w0.heap.size=N) (hx:a.eval x=.slice (some ⟨N,0,none⟩) 1 1) (M:Nat) (hM:M=Q.length+1)
  (h:∀ g cap w', PtV base w' (.slice (some ⟨g,0,none⟩) M cap) (Q ++ [(x0,p)])->Zc (λ k=>v.ownBlock=some k) w0 w' -> Za w0 w0->wpList Tryz.prog ops Q' rest (a.put o.dst (.slice (some ⟨g,0,none⟩) M cap)) w') :
  wpList Tryz.prog ops Q' (o :: rest) a (w0.alloc (.cells #[.int .i64 x0,.slice ao p.length ac] 77)):=by
 subst hN hM;obtain ⟨i,hi,hz0,hz1,hz2⟩:=info_parts Zia;obtain ⟨vs,r1,r2⟩:=hL;refine wpList_append_lies _ hgd s x 62 ho base 77 i _ 2 32 Tryz.underlying62 hi hz0 hz1 hz2 rfl (by decide) v Q.length vs hs (r1.alloc _) ⟨w0.heap.size,0,none⟩ 1 1 [.int .i64 x0,.slice ao p.length ac] hx rfl (World.news_of_block (cs:=#[.int .i64 x0,.slice ao p.length ac]) (t:=77) (fr:=(0,0)) (heap_alloc_new w0 _)) (by simp [Value.oneCell']) (by omega) (by unfold maxLen;omega) (by omega) (by simp;omega) (w0.heap.size+1) (by simp) ?_;intro g cap w' hown hgrow hat hlt;have kg:Zc (λ k=>v.ownBlock=some k) w0 w' := Zc.grown (Zc.alloc (Zc.refl _ w0) _) hgrow (λ _ e _=>e);refine h g cap w' ⟨vs ++ [.int .i64 x0,.slice ao p.length ac],by simpa using hown,?_⟩ kg (Zc.refl _ _);refine Zus.snoc (r2.kept kg (λ k e cur hc=>?_)) (ha.kept kg (λ k e cur hc=>?_)) hab
 ·obtain ⟨cur', hc'⟩:=Zo r1 e
  rw [hc] at hc'; cases hc'
 ·obtain ⟨cur', hc'⟩:=Zo r1 e
  rw [hc] at hc'; cases hc'
theorem PtV.onto {W w w' : World} {v:Value} {Q:List (Int × List Int)} (h:Za W w) (hr:PtV W.heap.size w v Q) (hk:Zc (λ k=>v.ownBlock=some k) w w'):Za W w' := by
 obtain ⟨vs,h1,_⟩:=hr;exact Zc.trans h hk (λ i hi e=>by have:=Y0 h1 e;omega)
theorem Zko (L:List Sym) (l r:List Int) {i:Nat} (hi:i<r.length):Yf L (l,r.take (i+1))=Yf L (l,r.take i) ++ [Xn L l r[i]]:=by
 show List.map _ _=List.map _ _++_;rw [List.take_add_one,List.getElem?_eq_getElem hi,List.map_append];rfl
theorem Zmn (L:List Sym) (l r:List Int) {i:Nat} (hi:i<=r.length):(Yf L (l,r.take i)).length=i:=by
 show (List.map _ _).length=i;rw [List.length_map,List.length_take];omega
theorem Zrm {t:List Int} {y:Int}:∀ {k:Nat},k<=t.length->y∈t.drop k->Zrs (t.drop k) k y ≠ -1:=by
 intro k hk hm e
 induction h:t.length-k generalizing k with
 | zero=>rw [List.drop_eq_nil_of_le (by omega)] at hm;cases hm
 | succ n ih=>
  have hlt:k<t.length:=by omega
  rw [Zbe hlt] at e;split at e
  ·omega
  ·rename_i hq
   rw [List.drop_eq_getElem_cons hlt] at hm
   rcases List.mem_cons.1 hm with hm | hm
   ·exact hq hm
   ·exact ih (by omega) hm e (by omega)
theorem Zmr {w:World} {rv:Value} {L:List Sym} (h:Rl w.heap.size w rv L) {ao bo:Option Addr} {ac bc:Nat} {l r:List Int} (ha:Zh w ao l) (hb:Zh w bo r) (hl:Ze L l=0) (hr:r.length<=2000) (hv:∀ y∈r,y<0->y∈l) :
  Calls Tryz.prog 53 #[rv,.agg #[.slice ao l.length ac,.slice bo r.length bc]] w λ e w' => ∃ v,e=.returned v∧PtV w.heap.size w' v (Yf L (l,r))∧Za w w' := by
 obtain ⟨hl2,_,hT⟩:=Zg.1 hl;obtain ⟨W1,hW1⟩:∃ W1,W1=w.alloc (.cells #[.slice ao l.length ac,.slice bo r.length bc] 68):=⟨_,rfl⟩;have KW:Za w W1:=by rw [hW1];exact (Zc.refl _ w).alloc _
 have hbx:W1.heap[w.heap.size]? = some (.cells #[.slice ao l.length ac,.slice bo r.length bc] 68 (0,0)):=by rw [hW1];exact heap_alloc_new w _
 have BX:Hid (∀ X,Za W1 X->X.cell? ⟨w.heap.size,0,none⟩=some (.slice ao l.length ac)∧X.cell? ⟨w.heap.size,1,none⟩=some (.slice bo r.length bc)):=λ X hk=>by
  have:=hk.at0 hbx;exact ⟨Zb this 0,Zb this 1⟩
 have GA:Hid (∀ X i (hi:i<l.length),Za W1 X->∃ b off,ao=some ⟨b,off,none⟩∧X.cell? ⟨b,off+i,none⟩=some (.int .i64 l[i])):=λ X i hi hk=>by
  obtain ⟨b,off,e,_,hc⟩:=((ha.same KW).same hk).get hi;exact ⟨b,off,e,hc⟩
 have GB:Hid (∀ X i (hi:i<r.length),Za W1 X->∃ b off,bo=some ⟨b,off,none⟩∧X.cell? ⟨b,off+i,none⟩=some (.int .i64 r[i])):=λ X i hi hk=>by
  obtain ⟨b,off,e,_,hc⟩:=((hb.same KW).same hk).get hi;exact ⟨b,off,e,hc⟩
 have CP:Hid (∀ X k (hk:k<l.length),Za W1 X->Calls Tryz.prog 87 #[rv,.slice ao l.length ac,.int .i64 (k:Int)] X λ e w' => ∃ po pc,e=.returned (.slice po (Zx (way L l k)).length pc)∧Hid (Xx w' po (Zx (way L l k)) pc∧∀ a,po=some a->W1.heap.size<=a.block)∧Za X w'):=λ X k hk hx=>by
  refine (Zde ((h.same KW).same hx) ((ha.same KW).same hx) hl2 hT k hk).mono ?_;rintro e w' ⟨v,rfl,h1,h2⟩;have hlen:(Zx (way L l k)).length<=2000:=by rw [Y6];have:=Vr L l k (by omega);omega
  obtain ⟨po,pc,rfl,h3,h4⟩:=h1.arg (by omega);exact ⟨po,pc,rfl,⟨h3,λ a e=>Nat.le_trans hx.size (h4 a e)⟩,h2⟩
 have HPWr:Hid (∀ k,k<l.length->Zas L l (k:Int)=Zx (way L l k)):=λ k hk=>by
  have hz:Yt L l (k:Int)=0:=by
   rw [Yt,if_neg (by simpa using hl),if_neg (by omega)]
  rw [Zas,if_pos hz];rfl
 have HV:Hid (∀ i (hi:i<r.length),r[i]<0->r[i]∈l):=λ i hi hn=>hv _ (List.getElem_mem hi) hn;have HF:Hid (∀ X v,Za W1 X->PtV W1.heap.size X v (Yf L (l,r))->PtV w.heap.size X v (Yf L (l,r))∧Za w X):=λ X v h1 h2=>⟨h2.low KW.size,KW.trans' h1⟩;have IN0:Hid (PtV W1.heap.size W1 (.slice none 0 0) (Yf L (l,r.take 0))):=by simpa [Yf,Hid] using PtV.nil W1.heap.size W1
 have hzz:(0:Int)<=0:=by decide
 clear h ha hb hl hT KW hbx hv
 go_enter Tryz.func53,Tryz.ntmps53
 go_upto_region 1 with fail
 rw [<- hW1];clear hW1
 go_wp2_with fail
 obtain ⟨wo,hwo⟩:∃ wo:World,wo=W1:=⟨_,rfl⟩
 go_loopw [5,6] (λ ov iv wr=>∃ i:Nat,i<=r.length∧iv=.int .i64 (i:Int)∧Hid (PtV W1.heap.size wr ov (Yf L (l,r.take i)))∧Za W1 wr) (λ _ iv _=>r.length-(intOf iv).toNat)
 case atStart=>exact ⟨0,Nat.zero_le _,rfl,IN0.out,Zc.refl _ _⟩
 case round=>
  clear IN0;obtain ⟨i,hi,rfl,hQ,hs⟩:=hrel;obtain ⟨oo,oc,rfl⟩:=hQ.out.shape;have hM:=Zmn L l r hi;rw [hM] at hQ ⊢;obtain ⟨y0,y1⟩:=BX.out wr hs
  by_cases hlt:i<r.length
  ·obtain ⟨rb,roff,rfl,cr⟩:=GB.out wr i hlt hs
   have hneg:=HV.out i hlt;have i1:(0:Int)<=(i:Int):=by omega
   have i2:(i:Int)<(r.length:Int):=by omega
   have hstep:=Zko L l r hlt
   have GC:Hid (∀ X,Za W1 X->X.cell? ⟨rb,roff+i,none⟩=some (.int .i64 (r[i]'hlt))):=λ X hx=>by
    obtain ⟨b,off,e,hc⟩:=GB.out X i hlt hx;simp only [Option.some.injEq,Addr.mk.injEq,and_true] at e;obtain ⟨rfl,rfl⟩:=e;exact hc
   have HZ:Hid (W1.heap.size<=wr.heap.size):=hs.size;have HMS:Hid (i<=2000):=by show _<=_;omega
   generalize hxx:r[i]'hlt=x at *;have HE:Hid (∀ p,Xn L l x=p->Yf L (l,r.take (i+1))=Yf L (l,r.take i) ++ [p]):=λ p e=>by rw [<- e];exact hstep
   clear hstep hxx;obtain ⟨Q,hQe⟩:∃ Q,Q=Yf L (l,r.take i):=⟨_,rfl⟩;rw [<- hQe] at hQ hM HE;have HM:Hid (Q.length=i):=hM;clear hQe hM
   by_cases hx:0<=x
   ·have HP:Hid (Xn L l x=(x,[])):=by show _=_;rw [Xn,if_pos hx]
    clear hneg CP HPWr HV GA;have hq:=hQ.out;have A0:=Zt2 wr;have hms:=HMS.out;have HMe:=HM.out;have hzW:=HZ.out
    go_wp2_with (first | (at_builtin;refine Zdd rfl _ _ rfl W1.heap.size (.slice oo i oc) Q rfl hq hzW (by omega) x none 0 [] A0 (λ a e=>by cases e) wr.heap.size rfl rfl (i+1) (by omega) ?_;intro g cap w2 hq2 hk2 _;have hs2:=PtV.onto hs hq hk2))
    go_roundw
    case rel=>exact ⟨i+1,by omega,by go_num,by show PtV _ _ _ _;rw [HE.out _ HP.out];exact hq2,hs2⟩
    case measure=>simp [intOf];omega
   ·have hin:=hneg (by omega)
    have HIN:Hid (x∈l):=hin;clear hneg hin
    go_wp2_with fail
    obtain ⟨wo2,rfl⟩:∃ wo2:World,wo2=wr:=⟨_,rfl⟩
    go_loopw [5,7] (λ ov kv wr=>∃ k:Nat,k<=l.length∧ov=.slice oo i oc∧kv=.int .i64 (k:Int)∧Za W1 wr∧Hid (PtV W1.heap.size wr (.slice oo i oc) Q)∧Hid (Zht l x=Zrs (l.drop k) k x)) (λ _ kv _=>l.length-(intOf kv).toNat)
    case atStart=>exact ⟨0,Nat.zero_le _,rfl,rfl,hs,hQ.out,by show _=_;simp [Zht]⟩
    case round=>
     clear hs hQ y0 y1 cr HZ;obtain ⟨k,hk,rfl,rfl,hs,hQ,hX⟩:=hrel;obtain ⟨y0,y1⟩:=BX.out wr hs;have cr:=GC.out wr hs;have HZ:Hid (W1.heap.size<=wr.heap.size):=hs.size;have hsd:Za W1 wr.drew:=hs.trans' ((Zc.refl _ wr).drew);have hqd:PtV W1.heap.size wr.drew (.slice oo i oc) Q:=hQ.out.same ((Zc.refl _ wr).drew);have bxd:=BX.out wr.drew hsd;have grd:=GC.out wr.drew hsd;have HSD:Hid (Za W1 wr.drew∧PtV W1.heap.size wr.drew (.slice oo i oc) Q):=⟨hsd,hqd⟩;have hzW:W1.heap.size<=wr.drew.heap.size:=hsd.size;have HZD:Hid (W1.heap.size<=wr.drew.heap.size):=hzW;clear hsd hqd hzW
     by_cases hkl:k<l.length
     ·obtain ⟨lb,loff,rfl,cl⟩:=GA.out _ k hkl hs
      have k1:(0:Int)<=(k:Int):=by omega
      have k2:(k:Int)<(l.length:Int):=by omega
      have hG:=Zbe hkl x
      by_cases hq:x=l[k]
      ·have HP:Hid (Xn L l x=(-1,Zx (way L l k))):=by
        show _=_;rw [Xn,if_neg (by omega)];rw [hX.out,hG,if_pos hq,HPWr.out k hkl]
       have CC:=CP.out wr.drew k hkl HSD.out.1;have HPW:Hid (Xn L l x=(-1,Zx (way L l k))):=HP;have q1:(l[k] == x)=true:=by simpa using hq.symm
       generalize hpp:Zx (way L l k)=P at *;clear hG HPWr CP GA GB HV hX HP hpp HIN;generalize l[k]=y at *;have hms:=HMS.out;have hMe:=HM.out
       go_upto_region 10 with fail
       go_region
       clear hQ hs y0 y1 cr cl;generalize wr.drew=w8 at *;obtain ⟨y0,y1⟩:=bxd;obtain ⟨hs,hq0⟩:=HSD.out;have hzW:=HZD.out
       go_wp2_with (first
        | (go_at_call 87;refine CC.mono ?_;rintro e w2 ⟨po,pc,rfl,hap,kp⟩;have hq3:=hq0.same kp;have hs3:=hs.trans' kp;have z3:=Nat.le_trans hzW kp.size)
        | (at_builtin;refine Zdd rfl _ _ rfl W1.heap.size (.slice oo i oc) Q rfl hq3 z3 (by omega) (-1) po pc P hap.out.1 hap.out.2 w2.heap.size rfl rfl (i+1) (by omega) ?_;intro g cap w4 hq4 hk4 _;have hs4:=PtV.onto hs3 hq3 hk4))
       go_roundw
       case rel=>exact ⟨i+1,by omega,by go_num,by show PtV _ _ _ _;rw [HE.out _ HPW.out];exact hq4,hs4⟩
       case measure=>simp [intOf];omega
      ·have HI:Hid (Zht l x=Zrs (l.drop (k+1)) (k+1) x):=by show _=_;rw [hX.out,hG,if_neg hq]
       have q1:(l[k] == x)=false:=by simpa using λ e=>hq e.symm
       clear hG HPWr CP GA GB HV hX HIN;generalize l[k]=y at *
       go_upto_region 10 with fail
       go_region
       clear hQ hs y0 y1 cr cl;generalize wr.drew=w8 at *
       go_wp2_with fail
       go_roundw
       case rel=>exact ⟨k+1,by omega,rfl,by go_num,HSD.out.1,HSD.out.2,HI⟩
       case measure=>simp [intOf];omega
     ·have:=Zrm (t:=l) (y:=x) (k:=0) (Nat.zero_le _) (by simpa using HIN.out)
      have e:=hX.out;rw [List.drop_eq_nil_of_le (by omega)] at e;exact absurd e this
  ·obtain rfl:i=r.length:=by omega
   rw [List.take_of_length_le (Nat.le_refl _)] at hQ;go_wp2;go_ret;obtain ⟨f1,f2⟩:=HF.out _ _ hs hQ.out;exact ⟨_,rfl,f1,f2⟩
end
section
open Go.RowKit
section
variable {F : Fence} {n : Nat} {P : Program}
def Zuv (F:Fence) (n:Nat) (P:Program) (gf:Nat) (lb:Array Value) (B N:Nat) (Lk:Nat->Array Value->World->Prop) (w:World):Prop:=
 ∀ (l:Nat) (J:Nat->World->Prop) (Z:World->Prop) (W:World),Za w W->(∀ k X Y,J k X->Za X Y->J k Y)->(∀ X Y,Z X->Za X Y->Z Y) ->
  (∀ k vs X,k<N->J k X->Lk k vs X->YieldAt F (n-1) P l vs X λ e Y=>(e=.returned (.bool true)∧J (k+1) Y∧Below B X Y)∨(e=.returned (.bool false)∧Z Y))->J 0 W ->
  CallsIn F n P gf (#[.func (.yield l) #[] #[]]++lb) W λ e Y=>(∃ v,e=.returned v)∧(J N Y∨Z Y)
theorem Zqz {g:Operand} {ps:Array Tmp} {assign body:Code} {Q:Exit->Act->World->Prop} {a:Act} {w:World}
  (hro:F.round=none) (h1:1<=n) {gf:Nat} {lb:Array Value} (hg:a.eval g=.func (.func gf) #[] lb) (hFg:F.fn gf) (eg:∀ args w,(callFunc gf args).run P w=.ok (.enter gf args) w)
  {N:Nat} {Lk:Nat->Array Value->World->Prop} {B:Nat} (hB:B<=w.heap.size) (hh:Zuv F (n-1) P gf lb B N Lk w) (hsz:∀ k vs W,Lk k vs W->vs.size=ps.size)
  (J:Nat->World->Prop) (hJ:∀ k X Y,J k X->Za X Y->J k Y) (hJp:∀ k X l o o', J k X->X.heap[l]? = some o->o.isCells=false->w.heap.size<=l->J k (X.putObj l o')) (h0:J 0 w) (Z:World->Prop) (hZ:∀ X Y,Z X->Za X Y->Z Y) (hZp:∀ X l o o', Z X->X.heap[l]? = some o->o.isCells=false->w.heap.size<=l->Z (X.putObj l o'))
  (hround:∀ (l k:Nat) (vs:Array Value) (W:World),k<N->w.heap.size<=l->l<W.heap.size->J k W->Lk k vs W ->
   assign.wpIn (F.inRound l) (n-1-1) P (Exit.then (λ a' Wa=>Rnd w.heap.size B W Wa∧∀ o o', Wa.heap[l]? = some o->o.isCells=false->o'.isCells=false ->
    body.wpIn (F.inRound l) (n-1-1) P (λ e _ Y=>(e=.normal∧Rnd w.heap.size B (Wa.putObj l o') Y∧J (k+1) Y)∨(e=.ret∧KeepsFrom w.heap.size (Wa.putObj l o') Y∧Z Y)) a' (Wa.putObj l o')) (λ _ _ _=>False))
    { tmps:=(ps.zip vs).foldl (λ t (p,v)=>t.setIfInBounds p v) a.tmps,defers:=[] } W)
  (hdone:∀ (D:Nat) (W:World),w.heap.size<=D->J N W->W.heap[D]? = some (.deferred (some []))->Q .normal { a with defers:={ target:=.collected D,args:=#[] } :: a.defers } W)
  (hstop:∀ (D:Nat) (W:World),w.heap.size<=D->Z W->W.heap[D]? = some (.deferred (some []))->Code.wpIn F n P .ret Q { a with defers:={ target:=.collected D,args:=#[] } :: a.defers } W) :
  (Code.rangeFunc g ps assign body).wpIn F n P Q a w:=by
 refine wpIn_rangeFunc λ fn hfn=>?_;rw [hro];have hen:=run_enterLoop_outer (P:=P) (w:=w) fn a.tmps ps assign body;obtain ⟨st,hst⟩:∃ st:LoopState->Option Code->Loop,st=λ s p=>{ state:=s,pending:=p,fn:=fn,tmps:=a.tmps,params:=ps,assign:=assign,body:=body,defers:=w.heap.size }:=⟨_,rfl⟩;obtain ⟨W1,hW1⟩:∃ W1,W1=(w.alloc (.deferred (some []))).alloc (.loop (st .ready none)):=⟨_,rfl⟩;have hs1:Za w W1:=by rw [hW1];exact ((Zc.refl _ w).alloc _).alloc _
 have hd1:W1.heap[w.heap.size]? = some (.deferred (some [])):=by
  rw [hW1];exact (Below.heap_alloc _ _ _ (by simp)).trans (World.alloc_heap_new w _)
 have hl1:W1.heap[w.heap.size+1]? = some (.loop (st .ready none)):=by
  have:=World.alloc_heap_new (w.alloc (.deferred (some []))) (.loop (st .ready none));rw [hW1];simpa using this
 refine ⟨w.heap.size+1,[{ target:=.collected w.heap.size,args:=#[] }],W1, { target:=.fn (.func gf) lb,args:=#[.func (.yield (w.heap.size+1)) #[] #[]] },W1,gf, #[.func (.yield (w.heap.size+1)) #[] #[]]++lb,W1,?_,?_,?_,?_,λ _=>h1,?_⟩
 ·rw [hen,hW1,hst]
 ·simp only [resolve,hg];simp [go_sem]
 ·intro f' hf'; simp [Target.leads] at hf'; subst hf'; exact hFg
 ·simp [invoke,go_sem,eg]
 ·have hcall:=hh (w.heap.size+1) (λ k X=>J k X∧X.heap[w.heap.size+1]? = some (.loop (st .ready none))∧X.heap[w.heap.size]? = some (.deferred (some []))) (λ X=>Z X∧X.heap[w.heap.size+1]? = some (.loop (st .done (some .ret)))∧X.heap[w.heap.size]? = some (.deferred (some []))) W1 hs1
   (λ k X Y h hk=>⟨hJ k X Y h.1 hk,hk.at0 h.2.1,hk.at0 h.2.2⟩) (λ X Y h hk=>⟨hZ X Y h.1 hk,hk.at0 h.2.1,hk.at0 h.2.2⟩) ?_ ⟨hJ 0 _ _ h0 hs1,hl1,hd1⟩
  ·refine hcall.mono ?_
   rintro e Y ⟨⟨v,rfl⟩,⟨hj,hl,hd⟩ | ⟨hz,hl,hd⟩⟩
   rotate_left
   ·have hend:=run_endLoop (P:=P) hl (by rw [hst];simp)
    rw [hst] at hend;exact ⟨some .ret,_,hend,hstop w.heap.size _ (Nat.le_refl _) (hZp _ _ _ _ hz hl rfl (by omega)) ((World.putObj_heap_other (by omega)).trans hd)⟩
   have hend:=run_endLoop (P:=P) hl (by rw [hst];simp);rw [hst] at hend;exact ⟨none,_,hend,hdone w.heap.size _ (Nat.le_refl _) (hJp _ _ _ _ _ hj hl rfl (by omega)) ((World.putObj_heap_other (by omega)).trans hd)⟩
  ·rintro k vs X hk ⟨hj,hl,hd⟩ hlk
   have hy:=run_yield (P:=P) (args:=vs) hl (by rw [hst];exact hsz k vs X hlk);rw [hst] at hy;have hlX:w.heap.size+1<X.heap.size:=(Array.getElem?_eq_some_iff.1 hl).1;refine ⟨fn,_,assign,body,hy,roundIn_of_wpIn hfn (wpIn_mono (hround (w.heap.size+1) k vs X hk (by omega) hlX hj hlk) ?_)⟩;rintro e a' Wa hp;cases e with
   | normal=>
    obtain ⟨hr,hb⟩:=hp;have hla:=hr.recs.same _ _ (by omega) hl rfl;have hda:=hr.recs.same _ _ (Nat.le_refl _) hd rfl;have hlt:w.heap.size+1<Wa.heap.size:=(Array.getElem?_eq_some_iff.1 hla).1;refine ⟨_,run_beginRound hla (by rw [hst]),wpIn_mono (hb _ (.loop { st .ready none with state:=.busy }) hla rfl rfl) ?_⟩;rintro e2 a2 Y (⟨rfl,hr2,hj2⟩ | ⟨rfl,hr2,hz2⟩)
    rotate_left
    ·have hl2:=hr2.same _ _ (by omega) (World.putObj_heap_same (o:=.loop { st .ready none with state:=.busy }) hlt) rfl
     have hd2:=hr2.same _ _ (Nat.le_refl _) ((World.putObj_heap_other (o:=.loop { st .ready none with state:=.busy }) (by omega)).trans hda) rfl;have hend:=run_endRound (P:=P) (some .ret) hl2;rw [hst] at hend;refine ⟨_,_,hend,.inr ⟨rfl,hZp _ _ _ _ hz2 hl2 rfl (by omega),?_,(World.putObj_heap_other (by omega)).trans hd2⟩⟩;rw [hst];exact World.putObj_heap_same (Array.getElem?_eq_some_iff.1 hl2).1
    have hl2:=hr2.recs.same _ _ (by omega) (World.putObj_heap_same (o:=.loop { st .ready none with state:=.busy }) hlt) rfl;have hd2:=hr2.recs.same _ _ (Nat.le_refl _) ((World.putObj_heap_other (o:=.loop { st .ready none with state:=.busy }) (by omega)).trans hda) rfl;have hend:=run_endRound (P:=P) none hl2;rw [hst] at hend;refine ⟨_,_,hend,.inl ⟨rfl,⟨hJp _ _ _ _ _ hj2 hl2 rfl (by omega),?_,(World.putObj_heap_other (by omega)).trans hd2⟩,?_⟩⟩
    ·rw [hst];exact World.putObj_heap_same (Array.getElem?_eq_some_iff.1 hl2).1
    ·exact (hr.below.trans (Zbo hla (by omega))).trans (hr2.below.trans (Zbo hl2 (by omega)))
   | _=>exact hp.elim
end
end
section
open Go.RowKit Go.Shelf
attribute [local go_sem] Oper.semAt_some
theorem Zki {n:Nat} {w wx:World} {b:Nat} {L:List Sym} {sv:Value} {mr:Option Nat} (hs:Yd w b L sv mr) (hwx:Za w wx) {Bn:Nat} (hbx:wx.cell? ⟨Bn,0,none⟩=some (.pointer (some ⟨b,0,none⟩))) (hn:1<=n) :
  Zuv Fence.wide n Tryz.prog 96 #[.pointer (some ⟨Bn,0,none⟩)] w.heap.size L.length (SyLk L) wx:=by
 intro l J Z W hW hJ hZ hY h0;have hFn:∀ k,Fence.wide.fn k:=λ _=>trivial;have KW:Za w W:=hwx.trans' hW;have s1:W.cell? ⟨Bn,0,none⟩=some (.pointer (some ⟨b,0,none⟩)):=(hW.cell (p:=⟨Bn,0,none⟩) (World.block_lt_of_cell? _ _ hbx) (λ f=>f)).trans hbx;obtain ⟨ao,cap,rfl⟩:=hs.sv;have hlen:=hs.len;have HS:Hid (∀ X,Za w X->Yd X b L (.slice ao L.length cap) mr):=λ X hk=>hs.kept hk (λ _ _ f=>f);have c0:W.cell? ⟨b,0,none⟩=some (.slice ao L.length cap):=Zb (HS.out W KW).blk 0;have hpn:∀ ww:World,(binOp .eql 25 (.pointer (some ⟨b,0,none⟩)) (.pointer none)).run Tryz.prog ww=.ok (.bool false) ww:=λ ww=>by kernel_rfl
 clear hs;refine callsIn_of_wp Tryz.func96 rfl trivial ?_ rfl;simp only [Tryz.ntmps96,List.size_toArray,List.length_cons,List.length_nil,Nat.reduceAdd,Nat.reduceSub,Array.replicate_succ,Array.replicate_zero,List.push_toArray,List.append_toArray,List.nil_append,List.cons_append]
 gi_wp2_with fail
 gi_loopw [12] (λ i wr=>∃ k:Nat,k<=L.length∧i=.int .i64 k∧Za w wr∧J k wr) (λ i _=>L.length-(intOf i).toNat)
 case atStart=>exact ⟨0,Nat.zero_le _,rfl,KW,h0⟩
 case round=>
  clear s1 c0;obtain ⟨k,hk,rfl,hs,hj⟩:=hrel
  by_cases hlt:k<L.length
  ·have hsr:=HS.out wr hs
   obtain ⟨g,rfl,hg,x0,x1,x2⟩:=hsr.sym hlt;have i1:(0:Int)<=(k:Int):=by omega
   have i2:(k:Int)<(L.length:Int):=by omega
   have ka:Za wr (wr.alloc (.cells #[.string L[k].name,.int .i64 L[k].ar,.bool L[k].df] 129)):=(Zc.refl _ _).alloc _;obtain ⟨fn,tmps,asg,bdy,hy,hR⟩:=hY k _ _ hlt (hJ k _ _ hj ka) ⟨hlt,rfl⟩;have hs3:=hs.trans' ka
   gi_wp2_with fail
   refine hR.mono ?_;rintro e w4 (⟨rfl,hj4,hb4⟩ | ⟨rfl,hz4⟩)
   rotate_left
   ·clear hR hy hsr
    gi_wp2_with fail
    go_returns
    exact ⟨⟨_,rfl⟩,.inr hz4⟩
   have hs4:Za w w4:=Za.of_below (hs3.below.trans hb4);clear hR hy hsr
   gi_wp2_with fail
   go_roundw
   case rel=>exact ⟨k+1,by omega,by go_num,hs4,hj4⟩
   case measure=>simp [intOf];omega
  ·obtain rfl:k=L.length:=by omega
   gi_wp2_with fail
   go_end0
   exact ⟨⟨_,rfl⟩,.inl hj⟩
theorem Zsf (v:Value) (w:World):(binOp .neq 37 (.iface 98 v) .nilIface).run Tryz.prog w=.ok (.bool true) w:=by kernel_rfl
theorem Yg.putO {W:World} {l:Nat} {o o' : Obj} (hl:W.heap[l]? = some o) (ho:o.isCells=false):∀ {ws:List (Int × Int)} {v:Value},Yg W ws v->Yg (W.putObj l o') ws v
 | [],_,h=>h
 | (c,p) :: r,v,h=>by
  rcases h with h | ⟨h0,b,u,h1,h2,h3⟩
  ·exact .inl h
  ·exact .inr ⟨h0,b,u,h1,Xt (o' := o') hl ho h2 rfl,Yg.putO hl ho h3⟩
theorem Yg.keptX {S:Nat->Prop} {w w' : World} (hk:Zc S w w') (hS:∀ b,S b->∀ c,w.heap[b]? ≠ some (.cells c 100 (0,0))):∀ {ws:List (Int × Int)} {v:Value},Yg w ws v->Yg w' ws v
 | [],_,h=>h
 | (c,p) :: r,v,h=>by
  rcases h with h | ⟨h0,b,u,h1,h2,h3⟩
  ·exact .inl h
  ·exact .inr ⟨h0,b,u,h1,hk.at h2 (λ e=>hS b e _ h2),Yg.keptX hk hS h3⟩
def ZErr (w:World) (K z:Int) (W:World):Prop:=∃ q,W.heap[w.heap.size+1]? = some (.cells #[.slice none 0 0,.slice none 0 0,.slice none 0 0,.slice none 0 0] 51 (0,0))∧W.heap[w.heap.size+1+1]? = some (.cells #[.iface 98 (.pointer (some ⟨q,0,none⟩))] 37 (0,0))∧Yg W [(81,K),(82,z)] (.iface 98 (.pointer (some ⟨q,0,none⟩)))∧Za w W
theorem Zj7 {w:World} {b bs:Nat} {L:List Sym} {R:List Ru} {lv:Value} {vs:List Value} (h:Kd w b bs L R lv vs) {K:Nat} (hKL:K<L.length) (hdK:Y7 L (K:Int)=true) {z:Int} (hz:X5 L R K=.error z) (hall:∀ k,k<K->Y7 L (k:Int)=true->∃ t,X5 L R k=.ok t) :
  Calls Tryz.prog 14 #[.pointer (some ⟨b,0,none⟩)] w λ e w' => ∃ q,e=.returned (.tuple #[.agg #[.slice none 0 0,.slice none 0 0,.slice none 0 0,.slice none 0 0],.iface 98 (.pointer (some ⟨q,0,none⟩))])∧Yg w' [(81,(K:Int)),(82,z)] (.iface 98 (.pointer (some ⟨q,0,none⟩)))∧Za w w' := by
 have hFn:∀ k,Fence.wide.fn k:=λ _=>trivial;have hpn:=Zln;have hen:=Zl5;have hen1:=Zsf;have hle:=h.le;have hok:=h.ok;have hArs:=h.sig.2;have hL64:L.length<=64:=by obtain ⟨⟨sv,mr,hs,_⟩,_⟩:=h.sig;exact hs.len
 obtain ⟨W1,hW1⟩:∃ W1,W1=((w.alloc (.cells #[.pointer (some ⟨b,0,none⟩)] 26)).alloc (.cells #[.slice none 0 0,.slice none 0 0,.slice none 0 0,.slice none 0 0] 51)).alloc (.cells #[.nilIface] 37):=⟨_,rfl⟩;have KW:Za w W1:=by rw [hW1];exact (((Zc.refl _ w).alloc _).alloc _).alloc _
 have ez:W1.heap.size=w.heap.size+1+1+1:=by rw [hW1];simp
 have BK:Hid (∀ ww,Za W1 ww->ww.heap[w.heap.size]? = some (.cells #[.pointer (some ⟨b,0,none⟩)] 26 (0,0))∧ww.heap[w.heap.size+1]? = some (.cells #[.slice none 0 0,.slice none 0 0,.slice none 0 0,.slice none 0 0] 51 (0,0))∧ww.heap[w.heap.size+1+1]? = some (.cells #[.nilIface] 37 (0,0))):=λ ww hk=>by
  have k1:Za (w.alloc (.cells #[.pointer (some ⟨b,0,none⟩)] 26)) W1:=by rw [hW1];exact ((Zc.refl _ _).alloc _).alloc _
  have k2:Za ((w.alloc (.cells #[.pointer (some ⟨b,0,none⟩)] 26)).alloc (.cells #[.slice none 0 0,.slice none 0 0,.slice none 0 0,.slice none 0 0] 51)) W1:=by rw [hW1];exact (Zc.refl _ _).alloc _
  have h3:=Zp (w.alloc (.cells #[.pointer (some ⟨b,0,none⟩)] 26)) (.cells #[.slice none 0 0,.slice none 0 0,.slice none 0 0,.slice none 0 0] 51) (.cells #[.nilIface] 37);rw [World.size_alloc] at h3;exact ⟨hk.at0 (k1.at0 (heap_alloc_new w _)),hk.at0 (k2.at0 (Zp _ _ _)),hk.at0 (by rw [hW1];exact h3)⟩
 have r0:W1.cell? ⟨w.heap.size,0,none⟩=some (.pointer (some ⟨b,0,none⟩)):=Zb (BK.out W1 (Zc.refl _ _)).1 0;have CS:=(callsIn_wide (n:=8)).2 (Zg3 (h.same KW));refine (callsIn_wide (n:=9)).1 ?_;refine callsIn_of_wp_marks Tryz.func14 rfl trivial ?_ rfl;simp only [Tryz.ntmps14,List.size_toArray,List.length_cons,List.length_nil,Nat.reduceAdd,Nat.reduceSub,Array.replicate_succ,Array.replicate_zero,List.push_toArray,List.append_toArray,List.nil_append,List.cons_append]
 gi_upto_region 1 with fail
 rw [<- hW1];clear hW1
 gi_upto_region 4 with (gi_at_call 35;refine CS.mono ?_;rintro e w1 ⟨bt,rfl,hbt,sv,mr,hsig,hfoot,k1'⟩)
 have k1:Za W1 w1:=k1';have K1:Za w w1:=KW.trans' k1;have hzw:=k1.size
 gi_wp2_with (gi_at_call 49;refine (Zui Fence.wide _ trivial rfl _ _).mono ?_;rintro e w' ⟨rfl,rfl⟩)
 obtain ⟨W0,hW0⟩:∃ W0,W0=((w1.alloc (.cells #[.slice none 0 0,.slice none 0 0] 124)).alloc (.cells #[.slice none 0 0] 32)).alloc (.cells #[.pointer (some ⟨bt,0,none⟩)] 25):=⟨_,rfl⟩;have K0:Za w1 W0:=by rw [hW0];exact (((Zc.refl _ _).alloc _).alloc _).alloc _
 have z0:W0.heap.size=w1.heap.size+3:=by rw [hW0];simp
 have b0:W0.heap[w1.heap.size]? = some (.cells #[.slice none 0 0,.slice none 0 0] 124 (0,0)):=by
  rw [hW0,heap_alloc_old _ _ (by simp;omega)];exact heap_alloc2_old _ _ _
 have b1:W0.heap[w1.heap.size+1]? = some (.cells #[.slice none 0 0] 32 (0,0)):=by
  rw [hW0,heap_alloc_old _ _ (by simp)];exact Zp _ _ _
 have b2:W0.cell? ⟨w1.heap.size+1+1,0,none⟩=some (.pointer (some ⟨bt,0,none⟩)):=by
  have:=Zp (w1.alloc (.cells #[.slice none 0 0,.slice none 0 0] 124)) (.cells #[.slice none 0 0] 32) (.cells #[.pointer (some ⟨bt,0,none⟩)] 25);simp only [World.size_alloc] at this;rw [<- hW0] at this;exact Zb this 0
 rw [<- hW0];clear hW0;have START:CpJ L R w1 0 W0:=⟨K0,.slice none 0 0,b1,World.ownsRow_nil _ _ _ _,.slice none 0 0,.slice none 0 0,b0,(λ e=>by rcases e with e | e | e <;> first | omega | (simp [Value.ownBlock] at e)),Lay.nil _ _⟩;have ST:Hid (∀ X,Za w1 X->Kd X b bs L R lv vs∧X.cell? ⟨w.heap.size,0,none⟩=some (.pointer (some ⟨b,0,none⟩))):=λ X hk=>⟨h.same (K1.trans' hk),Zb (BK.out X (k1.trans' hk)).1 0⟩
 refine Zqz rfl (by omega) (gf:=96) (lb:=#[.pointer (some ⟨w1.heap.size+1+1,0,none⟩)]) rfl trivial (enters_of Tryz.func96 (by kernel_rfl) rfl) (B:=w1.heap.size) (by omega) (Zki hsig K0 b2 (by omega)) (λ k vs W h=>by obtain ⟨_,rfl⟩:=h;rfl)
  (λ k W=>k<=K∧CpJ L R w1 k W) (λ k X Y h hk=>⟨h.1,h.2.up hk⟩) (λ k X l o o' h hl ho hw=>⟨h.1,h.2.put hl ho (by omega)⟩) ⟨Nat.zero_le _,START⟩ (ZErr w (K:Int) z) (λ X Y h hk=>by
   obtain ⟨q,h1,h2,hf,h3⟩:=h;exact ⟨q,hk.at0 h1,hk.at0 h2,hf.same hk,h3.trans' hk⟩) (λ X l o o' h hl ho hw=>by
   obtain ⟨q,h1,h2,hf,h3⟩:=h;have kk:Zc (λ k=>k=l) X (X.putObj l o'):=Kz
   exact ⟨q,Xt hl ho h1 rfl,Xt hl ho h2 rfl,hf.putO hl ho,Zc.trans h3 kk (λ i hi e=>by have e' : i=l:=e;omega)⟩) ?round ?done ?stop
 case done=>
  rintro D W hD ⟨hj,_⟩ hD2;omega
 case stop=>
  rintro D W hD ⟨q,h1,h2,hf,h3⟩ hD2;have ks:Zc (λ q=>q=D) W (W.putObj D (.deferred none)):=Kz;have gZ:=(World.putObj_heap_other (w:=W) (r:=D) (o:=.deferred none) (k:=w.heap.size+1) (by omega)).trans h1;have nZ:=(World.putObj_heap_other (w:=W) (r:=D) (o:=.deferred none) (k:=w.heap.size+1+1) (by omega)).trans h2;have hf2:Yg (W.putObj D (.deferred none)) [(81,(K:Int)),(82,z)] (.iface 98 (.pointer (some ⟨q,0,none⟩))):=hf.putO hD2 rfl;have v0:=Zb gZ 0;have v1:=Zb gZ 1;have v2:=Zb gZ 2;have v3:=Zb gZ 3;have v4:=Zb nZ 0;simp only [List.getElem?_toArray,List.getElem?_cons_zero,List.getElem?_cons_succ] at v0 v1 v2 v3 v4;clear START
  gi_wp2_with fail
  refine ⟨by simp,.inl ⟨_,_,rfl,run_takeDeferred hD2,?_⟩⟩;exact ⟨.tuple #[.agg #[.slice none 0 0,.slice none 0 0,.slice none 0 0,.slice none 0 0],.iface 98 (.pointer (some ⟨q,0,none⟩))],by simp [results,Tryz.results14,go_sem,v0,v1,v2,v3,v4],q,rfl,hf2,Zc.trans h3 ks (λ i hi e=>by have e' : i=D:=e;omega)⟩
 case round=>
  rintro l k vs W hk hl hlW ⟨hkK,hj⟩ ⟨hk', rfl⟩;obtain ⟨Wa,hWa⟩:∃ Wa,Wa=W.alloc (.cells #[.string L[k].name,.int .i64 L[k].ar,.bool L[k].df] 129):=⟨_,rfl⟩;have ka:Za W Wa:=by rw [hWa];exact (Zc.refl _ _).alloc _
  have bx:Wa.heap[W.heap.size]? = some (.cells #[.string L[k].name,.int .i64 L[k].ar,.bool L[k].df] 129 (0,0)):=by rw [hWa];exact heap_alloc_new _ _
  gi_wp2_with fail
  rw [<- hWa];clear hWa;refine ⟨Rnd.same ka (by omega),λ o o' ho hoc hoc' => ?_⟩;have hjb:=(hj.up ka).put (o' := o') ho hoc (by omega);have bxb:=Xt (o' := o') ho hoc bx rfl;have lob:(Wa.putObj l o').heap[l]? = some o' := World.putObj_heap_same (Zi ho);obtain ⟨Wb,hWb⟩:∃ Wb,Wb=Wa.putObj l o' := ⟨_,rfl⟩;rw [<- hWb] at hjb bxb lob ⊢;have hzb:W0.heap.size<=Wb.heap.size:=by have:=Zi lob;omega
  clear hWb ho bx hj ka;have y2:Wb.cell? ⟨W.heap.size,2,none⟩=some (.bool L[k].df):=Zb bxb 2;obtain ⟨j1,ev,j2,j3,j4⟩:=hjb;obtain ⟨sm1,sm2⟩:=Ju hArs hL64 hle hok k (by omega);have c2:=Zb j2 0;simp only [List.getElem?_toArray,List.getElem?_cons_zero] at c2;obtain ⟨eo,ec,rfl⟩:=Zf j3;obtain ⟨i0,hi0,hz0,hz1,hz2⟩:=info_parts Xr;have bb1:(Zk L R k).2.length+1<=maxLen:=by unfold maxLen;omega
  have bb2:((Zk L R k).2.length+1) * 8<=140737488355328:=by omega
  have hdf:=Zbv hk';have hj1:=j1.size;cases hd:L[k].df with
  | false=>
   rw [hd] at hdf y2
   have hk1:k+1<=K:=by
    have:k≠K:=λ e=>by subst e;rw [hdf] at hdK;cases hdK
    omega
   have MORE:Hid (∀ w2 ev', w2.ownsRow w1.heap.size 3 1 ev' ((Zk L R k).2.length+1) (iv (Zk L R k).2 ++ [.int .i64 (-1)])->Zc (λ q=>(Value.slice eo (Zk L R k).2.length ec).ownBlock=some q) Wb w2->(∀ q,ev'.ownBlock=some q->(Value.slice eo (Zk L R k).2.length ec).ownBlock=some q∨Wb.heap.size<=q)->(w2.cell? ⟨w1.heap.size+1,0,none⟩=some (.slice eo (Zk L R k).2.length ec)∧w2.frozen? ⟨w1.heap.size+1,0,none⟩=false)∧CpJ L R w1 (k+1) (w2.setCell ⟨w1.heap.size+1,0,none⟩ ev')∧Rnd (w1.heap.size+3) w1.heap.size Wb (w2.setCell ⟨w1.heap.size+1,0,none⟩ ev')):=λ w2 ev' hr hkp hat=>by
    obtain ⟨q1,q2,q3⟩:=CpJ.pass (D:=w1.heap.size+3) hdf j1 j2 j3 j4 hr hkp hat;exact ⟨⟨Zb q1 0,Zd q1 0⟩,q2,q3⟩
   have hj3:Hid (Wb.ownsRow w1.heap.size 3 1 (.slice eo (Zk L R k).2.length ec) (Zk L R k).2.length (iv (Zk L R k).2)):=j3;have bb3:w1.heap.size<=(Wb.alloc (.cells #[.int .i64 (-1)] 3)).heap.size:=by simp;omega
   clear j1 j2 j3 j4 bxb lob sm1 sm2 hd ST;generalize (Zk L R k).2=EE at *
   gi_wp2_with (gi_at_builtin;refine wpListIn_append_own_at _ rfl _ _ 32 rfl w1.heap.size 3 i0 (.int .i64 0) 1 8 Tryz.underlying32 hi0 hz0 hz1 hz2 rfl (by decide) (.slice eo EE.length ec) EE.length (iv EE) rfl (World.ownsRow.alloc hj3.out _) ⟨Wb.heap.size,0,none⟩ 1 1 [.int .i64 (-1)] rfl rfl (cell_one_new _ _ _) (by simp [Value.oneCell']) bb1 bb2 bb3 ?_;intro v' w2 hown' hgrow _ hat;obtain ⟨g9,cap9,rfl⟩:=ownsRow_succ hown'; obtain ⟨⟨m1', m2'⟩,m3,m4⟩:=MORE.out w2 _ hown' (Zc.grown (Zc.alloc (Zc.refl _ Wb) _) hgrow (λ _ e _=>e)) (Zk9 hat (by simp)))
  | true=>
   rw [hd] at hdf y2;obtain ⟨hstb,rb⟩:=ST.out Wb j1
   by_cases ekK:k=K
   ·subst ekK
    have CB:Calls Tryz.prog 8 #[.pointer (some ⟨b,0,none⟩),.int .i64 (k:Int)] Wb λ e w' => ∃ q,e=.returned (.tuple #[.agg #[.int .i64 0,.int .i64 0,.slice none 0 0,.slice none 0 0],.iface 98 (.pointer (some ⟨q,0,none⟩))])∧Yg w' [(81,(k:Int)),(82,z)] (.iface 98 (.pointer (some ⟨q,0,none⟩)))∧Za Wb w' := by
     refine (Zd5 hstb (k:Int)).mono ?_;rintro e w' ⟨hk9,h9⟩;rw [if_pos hdf,Int.toNat_natCast,hz] at h9;obtain ⟨v,rfl,hf⟩:=h9;have hf' := hf
     rcases hf with ⟨q,_⟩ | ⟨_,q,u,e1,_⟩
     ·omega
     ·subst e1;exact ⟨q,rfl,hf', hk9⟩
    have CX:Hid (∀ w3,Za Wb w3->(w3.heap[w.heap.size+1]? = some (.cells #[.slice none 0 0,.slice none 0 0,.slice none 0 0,.slice none 0 0] 51 (0,0))∧w3.heap[w.heap.size+1+1]? = some (.cells #[.nilIface] 37 (0,0)))∧Za w w3):=λ w3 hk3=>by
     obtain ⟨a1,a2,a3⟩:=BK.out w3 ((k1.trans' j1).trans' hk3);exact ⟨⟨a2,a3⟩,K1.trans' (j1.trans' hk3)⟩
    have FINX:Hid (∀ w3 q,Za Wb w3->Yg w3 [(81,(k:Int)),(82,z)] (.iface 98 (.pointer (some ⟨q,0,none⟩)))->((w3.cell? ⟨w.heap.size+1,0,none⟩=some (.slice none 0 0)∧w3.cell? ⟨w.heap.size+1,1,none⟩=some (.slice none 0 0)∧w3.cell? ⟨w.heap.size+1,2,none⟩=some (.slice none 0 0)∧w3.cell? ⟨w.heap.size+1,3,none⟩=some (.slice none 0 0))∧(w3.frozen? ⟨w.heap.size+1,0,none⟩=false∧w3.frozen? ⟨w.heap.size+1,1,none⟩=false∧w3.frozen? ⟨w.heap.size+1,2,none⟩=false∧w3.frozen? ⟨w.heap.size+1,3,none⟩=false))∧(((((w3.setCell ⟨w.heap.size+1,0,none⟩ (.slice none 0 0)).setCell ⟨w.heap.size+1,1,none⟩ (.slice none 0 0)).setCell ⟨w.heap.size+1,2,none⟩ (.slice none 0 0)).setCell ⟨w.heap.size+1,3,none⟩ (.slice none 0 0)).cell? ⟨w.heap.size+1+1,0,none⟩=some .nilIface∧((((w3.setCell ⟨w.heap.size+1,0,none⟩ (.slice none 0 0)).setCell ⟨w.heap.size+1,1,none⟩ (.slice none 0 0)).setCell ⟨w.heap.size+1,2,none⟩ (.slice none 0 0)).setCell ⟨w.heap.size+1,3,none⟩ (.slice none 0 0)).frozen? ⟨w.heap.size+1+1,0,none⟩=false)∧KeepsFrom (w1.heap.size+3) Wb (((((w3.setCell ⟨w.heap.size+1,0,none⟩ (.slice none 0 0)).setCell ⟨w.heap.size+1,1,none⟩ (.slice none 0 0)).setCell ⟨w.heap.size+1,2,none⟩ (.slice none 0 0)).setCell ⟨w.heap.size+1,3,none⟩ (.slice none 0 0)).setCell ⟨w.heap.size+1+1,0,none⟩ (.iface 98 (.pointer (some ⟨q,0,none⟩))))∧ZErr w (k:Int) z (((((w3.setCell ⟨w.heap.size+1,0,none⟩ (.slice none 0 0)).setCell ⟨w.heap.size+1,1,none⟩ (.slice none 0 0)).setCell ⟨w.heap.size+1,2,none⟩ (.slice none 0 0)).setCell ⟨w.heap.size+1,3,none⟩ (.slice none 0 0)).setCell ⟨w.heap.size+1+1,0,none⟩ (.iface 98 (.pointer (some ⟨q,0,none⟩))))):=λ w3 q hk3 hfq=>by
     obtain ⟨⟨a2,a3⟩,a4⟩:=CX.out w3 hk3;obtain ⟨p1,p2⟩:=Zad a2 (.slice none 0 0) (.slice none 0 0) (.slice none 0 0) (.slice none 0 0);have n1:=p2.at a3 (λ e=>(by have e' : w.heap.size+1+1=w.heap.size+1:=e;omega));have k5:=Zt ((((w3.setCell ⟨w.heap.size+1,0,none⟩ (.slice none 0 0)).setCell ⟨w.heap.size+1,1,none⟩ (.slice none 0 0)).setCell ⟨w.heap.size+1,2,none⟩ (.slice none 0 0)).setCell ⟨w.heap.size+1,3,none⟩ (.slice none 0 0)) (w.heap.size+1+1) 0 (.iface 98 (.pointer (some ⟨q,0,none⟩)));have k35:=Zc.trans (p2.mono (S' := λ q=>q=w.heap.size+1∨q=w.heap.size+1+1) (λ _ _ e=>.inl e)) k5 (λ _ _ e=>.inr e);have g5:=k5.at p1 (λ e=>(by have e' : w.heap.size+1=w.heap.size+1+1:=e;omega));have n5:=Zs n1 0 (.iface 98 (.pointer (some ⟨q,0,none⟩)));have hf5:=hfq.keptX k35 (λ b e c hb=>by rcases e with e | e <;> (subst e;first | (rw [a2] at hb;cases hb;done) | (rw [a3] at hb;cases hb;done)));have kk:=Zc.trans (hk3.mono (S' := λ q=>q=w.heap.size+1∨q=w.heap.size+1+1) (λ _ _ f=>f.elim)) k35 (λ _ _ e=>e);refine ⟨⟨⟨Zb a2 0,Zb a2 1,Zb a2 2,Zb a2 3⟩,Zd a2 0,Zd a2 1,Zd a2 2,Zd a2 3⟩,⟨Zb n1 0,Zd n1 0⟩,⟨kk.size,λ i o hi ho _=>kk.at ho (λ e=>by omega)⟩,q,g5,n5,hf5,Zc.trans a4 k35 (λ i hi e=>by omega)⟩
    have CBA:Hid (∀ w3 o,Za Wb w3->Za Wb (w3.alloc o)):=λ w3 o hk3=>Zc.alloc hk3 _;clear j1 j2 j3 j4 bxb lob sm1 sm2 hd ST hstb
    gi_wp2_with (first
     | (gi_at_call 8;refine (CallsIn.inRound l (callsIn_wide.2 CB)).mono ?_;rintro e w3 ⟨q,rfl,hfq,k3⟩;obtain ⟨⟨⟨s0,s1,s2,s3⟩,t0,t1,t2,t3⟩,⟨s4,t4⟩,kf,zf⟩:=FINX.out (w3.alloc (.cells #[.int .i64 0,.int .i64 0,.slice none 0 0,.slice none 0 0] 35)) q (CBA.out w3 _ k3) (hfq.same ((Zc.refl _ w3).alloc _))))
   ·obtain ⟨t,ht⟩:=hall k (by omega) hdf
    have hk1:k+1<=K:=by omega
    have hts:=Ku hArs hL64 hle hok hk' ht
    have CB:Calls Tryz.prog 8 #[.pointer (some ⟨b,0,none⟩),.int .i64 (k:Int)] Wb λ e w' => ∃ tk tr tpo tpl tpc tko tkl tkc,e=.returned (.tuple #[.agg #[.int .i64 tk,.int .i64 tr,.slice tpo tpl tpc,.slice tko tkl tkc],.nilIface])∧Hid (CsB (λ b=>Wb.heap.size<=b) w' 2001 (.agg #[.int .i64 tk,.int .i64 tr,.slice tpo tpl tpc,.slice tko tkl tkc]) t)∧Za Wb w' := by
     refine (Zd5 hstb (k:Int)).mono ?_;rintro e w' ⟨hk9,h9⟩;rw [if_pos hdf,Int.toNat_natCast,ht] at h9;obtain ⟨v,rfl,hc⟩:=h9;obtain ⟨tk,tr,tpo,tpl,tpc,tko,tkl,tkc,rfl⟩:=hc.shape;exact ⟨tk,tr,tpo,tpl,tpc,tko,tkl,tkc,rfl,hc,hk9⟩
    obtain ⟨vi,vp,tt1,tt2,tt3⟩:=id j4;obtain ⟨io,ic,rfl⟩:=Zf tt3.ri
    have XC:Hid (∀ w3 o,Za Wb w3->(w3.alloc o).cell? ⟨w1.heap.size+1,0,none⟩=some (.slice eo (Zk L R k).2.length ec)∧(w3.alloc o).cell? ⟨w1.heap.size,0,none⟩=some (.slice io (Zk L R k).1.1.length ic)∧(w3.alloc o).ownsRow w1.heap.size 3 1 (.slice eo (Zk L R k).2.length ec) (Zk L R k).2.length (iv (Zk L R k).2)∧w1.heap.size<=((w3.alloc o).alloc (.cells #[.int .i64 ((Zk L R k).1.1.length:Int)] 3)).heap.size):=λ w3 o hk3=>by
     have kx:Za Wb (w3.alloc o):=Zc.alloc hk3 _;exact ⟨Zb (kx.at0 j2) 0,Zb (kx.at0 tt1) 0,kx.row j3 (λ _ _ f=>f),by have:=kx.size;simp at this ⊢;omega⟩
    have LAID:Hid (∀ w3 tk tr tpo tpl tpc tko tkl tkc w4 ev', Za Wb w3->CsB (λ b=>Wb.heap.size<=b) w3 2001 (.agg #[.int .i64 tk,.int .i64 tr,.slice tpo tpl tpc,.slice tko tkl tkc]) t->w4.ownsRow w1.heap.size 3 1 ev' ((Zk L R k).2.length+1) (iv (Zk L R k).2 ++ [.int .i64 ((Zk L R k).1.1.length:Int)])->Zc (λ q=>(Value.slice eo (Zk L R k).2.length ec).ownBlock=some q) (w3.alloc (.cells #[.int .i64 tk,.int .i64 tr,.slice tpo tpl tpc,.slice tko tkl tkc] 35)) w4->(∀ q,ev'.ownBlock=some q->(Value.slice eo (Zk L R k).2.length ec).ownBlock=some q∨(w3.alloc (.cells #[.int .i64 tk,.int .i64 tr,.slice tpo tpl tpc,.slice tko tkl tkc] 35)).heap.size<=q) ->
      (w4.cell? ⟨w1.heap.size+1,0,none⟩=some (.slice eo (Zk L R k).2.length ec)∧w4.frozen? ⟨w1.heap.size+1,0,none⟩=false)∧((w4.setCell ⟨w1.heap.size+1,0,none⟩ ev').cell? ⟨w3.heap.size,0,none⟩=some (.int .i64 tk)∧(w4.setCell ⟨w1.heap.size+1,0,none⟩ ev').cell? ⟨w3.heap.size,1,none⟩=some (.int .i64 tr)∧(w4.setCell ⟨w1.heap.size+1,0,none⟩ ev').cell? ⟨w3.heap.size,2,none⟩=some (.slice tpo tpl tpc)∧(w4.setCell ⟨w1.heap.size+1,0,none⟩ ev').cell? ⟨w3.heap.size,3,none⟩=some (.slice tko tkl tkc))∧Calls Tryz.prog 50 #[.pointer (some ⟨w1.heap.size,0,none⟩),.agg #[.int .i64 tk,.int .i64 tr,.slice tpo tpl tpc,.slice tko tkl tkc]] (w4.setCell ⟨w1.heap.size+1,0,none⟩ ev') λ e Z=>(∃ u,e=.returned u)∧CpJ L R w1 (k+1) Z∧Rnd (w1.heap.size+3) w1.heap.size Wb Z):=by
     intro w3 tk tr tpo tpl tpc tko tkl tkc w4 ev' hk3 hc3 hr hkp hat;have ka:Za w3 (w3.alloc (.cells #[.int .i64 tk,.int .i64 tr,.slice tpo tpl tpc,.slice tko tkl tkc] 35)):=(Zc.refl _ _).alloc _;obtain ⟨q1,q2,q3⟩:=CpJ.laid (D:=w1.heap.size+3) hdf ht (by omega) (hk3.trans' ka) j1 j2 j3 j4 (hc3.same ka) hr hkp hat;have hz3:=hk3.size;have lE:=Zi j2
     have hb:=q2.at (heap_alloc_new w3 (.cells #[.int .i64 tk,.int .i64 tr,.slice tpo tpl tpc,.slice tko tkl tkc] 35)) (λ e=>by
      rcases e with e | e
      ·have:=Y3 j3 e;omega
      ·omega)
     exact ⟨⟨Zb q1 0,Zd q1 0⟩,⟨Zb hb 0,Zb hb 1,Zb hb 2,Zb hb 3⟩,q3⟩
    clear j1 j2 j3 j4 tt1 tt2 tt3 bxb lob sm1 sm2 hd ST hstb hts ht;generalize (Zk L R k).2=EE at *;generalize (Zk L R k).1.1.length=NN at *
    gi_wp2_with (first
     | (gi_at_call 8;refine (CallsIn.inRound l (callsIn_wide.2 CB)).mono ?_;rintro e w3 ⟨tk,tr,tpo,tpl,tpc,tko,tkl,tkc,rfl,hcs,k3⟩;obtain ⟨xc1,xc2,xc3,bb3⟩:=XC.out w3 (.cells #[.int .i64 tk,.int .i64 tr,.slice tpo tpl tpc,.slice tko tkl tkc] 35) k3)
     | (gi_at_builtin;refine wpListIn_append_own_at _ rfl _ _ 32 rfl w1.heap.size 3 i0 (.int .i64 0) 1 8 Tryz.underlying32 hi0 hz0 hz1 hz2 rfl (by decide) (.slice eo EE.length ec) EE.length (iv EE) rfl (World.ownsRow.alloc xc3 _) ⟨w3.heap.size+1,0,none⟩ 1 1 [.int .i64 (NN:Int)] rfl rfl (by have:=cell_one_new (w3.alloc (.cells #[.int .i64 tk,.int .i64 tr,.slice tpo tpl tpc,.slice tko tkl tkc] 35)) (.int .i64 (NN:Int)) 3;simp only [World.size_alloc] at this;exact this) (by simp [Value.oneCell']) bb1 bb2 bb3 ?_;intro v' w4 hown' hgrow _ hat;obtain ⟨g9,cap9,rfl⟩:=ownsRow_succ hown'; obtain ⟨⟨m1', m2'⟩,⟨d0,d1,d2,d3⟩,CL⟩:=LAID.out w3 tk tr tpo tpl tpc tko tkl tkc w4 _ k3 hcs.out hown' (Zc.grown (Zc.alloc (Zc.refl _ _) _) hgrow (λ _ e _=>e)) (Zk9 hat (by simp)))
     | (gi_at_call 50;refine (CallsIn.inRound l (callsIn_wide.2 CL)).mono ?_;rintro e w5 ⟨⟨u,rfl⟩,m3,m4⟩))
end
section
open Go.RowKit
theorem Zhw {w0:World} {ops:Array Oper} {rest:List Oper} {o:Oper} {a:Act} {Q:Exit->Act->World->Prop} (hgd:o.guard=none) (s x:Operand) (t:TypeId)
  (ho:o.op=.call { callee:=.builtin .append,args:=#[s,x],argTypes:=#[t,t] }) (ht:Tryz.prog.underlying t=some (.slice 3))
  (base:Nat) (xs:List Int) (v:Value) (hs:a.eval s=v) (hr:Row base w0 v xs) (ys:List Int) (ao:Option Addr) (m c:Nat) (hx:a.eval x=.slice ao m c) (hm:m=ys.length) (hy:Zh w0 ao ys) (hnil:ao=none->ys.length=0∧c=0) (hb:base<=w0.heap.size) (hsz:(xs.length+ys.length) * 8<=140737488355328)
  (h:∀ v' w', Row base w' v' (xs++ys)->Zc (λ k=>v.ownBlock=some k) w0 w' -> wpList Tryz.prog ops Q rest (a.put o.dst v') w') :
  wpList Tryz.prog ops Q (o :: rest) a w0:=by
 cases ao with
 | none=>
  obtain ⟨h1,rfl⟩:=hnil rfl;have:ys=[]:=List.eq_nil_of_length_eq_zero h1;subst this;subst hm;obtain ⟨i,hi,hz0,hz1,hz2⟩:=info_parts Xr;exact wpList_append_own_none hgd s x t ho base 3 i 1 ht hi v xs.length (iv xs) hs hr hx (h v w0 (by simpa using hr) (Zc.refl _ _))
 | some ad=>exact Xg hgd s x t ho ht base xs v hs hr ys ad m c hx hm hy hb hsz h
end
end Go.Proofs.YtjahpnbijefncaaGreat
