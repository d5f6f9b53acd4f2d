import Derived.WalkKit
import Derived.Test.YtmjgnfkbnofjoaaGreatDoorRN14
namespace Go.Proofs.YtmjgnfkbnofjoaaGreatDoor
open Go.Proofs.Tryz
set_option maxRecDepth 100000
set_option linter.unusedVariables false
set_option maxHeartbeats 16000000
variable {P:List (List Int)} {path t:List Int} {R:List Ru} {L:List Sym} {c cap g k n p pcap tc:Nat} {ao mo po so tn:Option Addr} {rv x2:Value} {w w' wr:World}
def vpS (L:List Sym):List (Nat × Nat)->List Int->List (List Int)
 | _,[]=>[]
 | st,x :: r=>(if x<0 then [Yf st] else [])++vpS L (pass st (arN L x)) r
theorem J8 (L:List Sym):∀ (a b:List Int) (st:List (Nat × Nat)),vpS L st (a++b)=vpS L st a++vpS L (run L st a) b
 | [],b,st=>rfl
 | x :: a,b,st=>by
  rw [List.cons_append,vpS,vpS,J8 L a b,List.append_assoc];rfl
def Zv (L:List Sym) (c:Nat):List Int:=(c:Int) :: List.replicate (arN L (c:Int)) (-1)
theorem Zd0 (i a:Nat) (st:List (Nat × Nat)):Yf ((i,a) :: st)=Yf st ++ [(i:Int)]:=by simp [Yf,ofN]
theorem Zec (L:List Sym):arN L (-1)=0:=Zdg (by omega)
theorem Zmg (L:List Sym):∀ (k j a:Nat) (st:List (Nat × Nat)),j+(k+1)=a ->
  vpS L ((j,a) :: st) (List.replicate (k+1) (-1))=(List.range' j (k+1)).map (λ (i:Nat)=>Yf st ++ [(i:Int)])∧run L ((j,a) :: st) (List.replicate (k+1) (-1))=Zd7 st
 | 0,j,a,st,h=>by
  have e:Zd7 ((j,a) :: st)=Zd7 st:=by rw [Zd7,if_neg (by omega)]
  refine ⟨?_,?_⟩
  ·simp [vpS,Zd0]
  ·show pass ((j,a) :: st) (arN L (-1))=_
   rw [Zec,pass,if_neg (by omega),e]
 | k+1,j,a,st,h=>by
  have e:pass ((j,a) :: st) (arN L (-1))=(j+1,a) :: st:=by rw [Zec,pass,if_neg (by omega),Zd7,if_pos (by omega)]
  obtain ⟨h1,h2⟩:=Zmg L k (j+1) a st (by omega);refine ⟨?_,?_⟩
  ·rw [List.replicate_succ,vpS,e,h1,if_pos (by omega),Zd0,List.range'_succ,List.map_cons]
   rfl
  ·rw [List.replicate_succ]
   show run L (pass ((j,a) :: st) (arN L (-1))) _=_;rw [e,h2]
theorem Zc4 (L:List Sym) (c:Nat) (st:List (Nat × Nat)):vpS L st (Zv L c)=(List.range (arN L (c:Int))).map (λ (i:Nat)=>Yf st ++ [(i:Int)])∧run L st (Zv L c)=Zd7 st:=by
 have e0:vpS L st (Zv L c)=vpS L (pass st (arN L (c:Int))) (List.replicate (arN L (c:Int)) (-1)):=by
  rw [Zv,vpS,if_neg (by omega),List.nil_append]
 have e1:run L st (Zv L c)=run L (pass st (arN L (c:Int))) (List.replicate (arN L (c:Int)) (-1)):=rfl;rw [e0,e1];generalize arN L (c:Int)=k;cases k with
 | zero=>exact ⟨rfl,rfl⟩
 | succ k=>
  have e:pass st (k+1)=(0,k+1) :: st:=by rw [pass,if_pos (by omega)]
  rw [e,List.range_eq_range'];exact Zmg L k 0 (k+1) st (by omega)
theorem Zgo (L:List Sym) (c:Nat):IsT L (Zv L c):=by
 unfold IsT Zv;rw [Yk,Nat.zero_add];generalize arN L (c:Int)=k
 induction k with
 | zero=>rfl
 | succ k ih=>rw [List.replicate_succ,Yk,Zec,Nat.add_zero];exact ih
theorem Zdj (L:List Sym) (c:Nat):(Zv L c).length=arN L (c:Int)+1:=by simp [Zv]
theorem Zr1 (hp:p<t.length) (hv:t[p]<0):Zj L t p=p+1:=by
 refine Xg ?_;rw [List.drop_eq_getElem_cons hp,Xv,Zdg (by omega),Nat.zero_add,Xa];rfl
def Vz (L:List Sym) (t:List Int) (p:Nat):Nat:=(vpS L [] (t.take p)).length
theorem Zhb (hp:p<t.length) (hv:t[p]<0):vpS L [] t=vpS L [] (t.take p) ++ [Yf (way L t p)]++vpS L (Zd7 (way L t p)) (t.drop (p+1)):=by
 have e:t=t.take p++(t[p] :: t.drop (p+1)):=by rw [List.getElem_cons_drop,List.take_append_drop]
 have e2:vpS L [] t=vpS L [] (t.take p++(t[p] :: t.drop (p+1))):=by rw [<- e]
 rw [e2,J8,vpS,if_pos hv,Zdg (by omega),pass,if_neg (by omega),List.append_assoc];rfl
theorem Zxj (hp:p<t.length) (hv:t[p]<0):Vz L t p<(vpS L [] t).length:=by
 rw [Zhb hp hv];unfold Vz;simp
theorem Zls (hp:p<t.length) (hv:t[p]<0):(vpS L [] t)[Vz L t p]? = some (Yf (way L t p)):=by
 rw [Zhb hp hv];unfold Vz;simp
theorem Znv (hp:p<t.length):Vz L t (p+1)=Vz L t p+(if t[p]<0 then 1 else 0):=by
 unfold Vz;rw [List.take_add_one,List.getElem?_eq_getElem hp,J8,List.length_append];congr 1;show (vpS L _ [t[p]]).length=_;rw [vpS];split <;> simp [vpS]
theorem Zzz:Vz L t t.length=(vpS L [] t).length:=by unfold Vz;rw [List.take_length]
theorem Zr7 (hp:p<t.length) (hv:t[p]<0) (c:Nat):vpS L [] (Kx L t p (Zv L c))=Y4 L (vpS L [] t) (Vz L t p) c:=by
 obtain ⟨f1,f2⟩:=Zc4 L c (way L t p);have hg:(vpS L [] t).getD (Vz L t p) []=Yf (way L t p):=by rw [List.getD,Zls hp hv];rfl
 unfold Kx Y4 Zh4;rw [hg,Zr1 hp hv,J8,J8];have e1:run L [] (t.take p)=way L t p:=rfl;have e2:run L [] (t.take p++Zv L c)=Zd7 (way L t p):=by rw [Zgg,e1,f2]
 rw [e1,e2,f1];have hs:=Zhb (L:=L) hp hv;have t1:(vpS L [] t).take (Vz L t p)=vpS L [] (t.take p):=by rw [hs];unfold Vz;simp
 have t2:(vpS L [] t).drop (Vz L t p+1)=vpS L (Zd7 (way L t p)) (t.drop (p+1)):=by
  rw [hs];unfold Vz;rw [List.append_assoc,List.drop_append,List.drop_eq_nil_of_le (by omega),Nat.add_sub_cancel_left];simp
 rw [t1,t2]
theorem Zxp (hp:p<t.length) (hv:t[p]<0) (c:Nat):(Kx L t p (Zv L c)).length=t.length+arN L (c:Int):=by
 unfold Kx;rw [Zr1 hp hv];simp [Zdj];omega
structure Zzw (L:List Sym) (R:List Ru) (t:List Int) (rows:List Rw):Prop where
 isT:IsT L t
 row:∀ x∈rows,∃ j,∃ h:j<R.length,x.1=(j:Int)∧x.2.1=R[j].1
 led:∀ x∈rows,Zcy L x.2.1 (vpS L [] t) x.2.2
 len:∀ x∈rows,t.length+wtL L x.2.1 x.2.2=x.2.1.length+(vpS L [] t).length
theorem Zm9 (hT:IsT L t):∀ (ps:List Nat),(∀ p∈ps,p<t.length)->ps.length<=wtL L t ps
 | [],_=>by simp [wtL,Zc1]
 | p :: r,hp=>by
  have:=Zm9 hT r (λ q hq=>hp q (List.mem_cons_of_mem _ hq));have e:=Xs hT (hp p (List.mem_cons_self ..));show r.length+1<=(Zj L t p-p)+wtL L t r;omega
theorem Zzw.small {rows:List Rw} (h:Zzw L R t rows) (hn:Ztq L n (vpS L [] t) rows) (hne:rows≠[]):t.length<=2000:=by
 obtain ⟨x,hx⟩:=List.exists_mem_of_ne_nil _ hne;obtain ⟨k1,k2,k3,k4⟩:=hn.ok x hx;have hz:=Ze.1 k1;have:=Zm9 hz.2.2 _ k3;have:=h.len x hx;have:=hz.1;omega
theorem Zzw.kid {rows:List Rw} (h:Zzw L R t rows) (hn:Ztq L n (vpS L [] t) rows) (hp:p<t.length) (hv:t[p]<0) (c:Nat):Zzw L R (Kx L t p (Zv L c)) ((Yj rows (Vz L t p) (c:Int)).map (Je L (Vz L t p))):=by
 have hc:=Zxj (L:=L) hp hv
 have key:∀ x∈Yj rows (Vz L t p) (c:Int),x∈rows∧∃ h1:Vz L t p<x.2.2.length,∃ h2:x.2.2[Vz L t p]<x.2.1.length,x.2.1[x.2.2[Vz L t p]]=(c:Int)∧(Z8 L x.2.1 x.2.2[Vz L t p]).length=arN L (c:Int):=λ x hx=>by
  obtain ⟨a,b⟩:=Zc3 hx;obtain ⟨_,r2,r3,_⟩:=hn.ok x a;have h1:Vz L t p<x.2.2.length:=by omega
  have h2:=r3 _ (List.getElem_mem h1);rw [Zci h1 h2] at b;exact ⟨a,h1,h2,b,by rw [Z9 h2,Zk,b]⟩
 refine ⟨Zuo h.isT hp (Zgo L c),?_,?_,?_⟩
 ·intro y hy
  obtain ⟨x,hx,rfl⟩:=List.mem_map.1 hy;exact h.row x (key x hx).1
 ·intro y hy
  obtain ⟨x,hx,rfl⟩:=List.mem_map.1 hy;obtain ⟨a,h1,h2,b,d⟩:=key x hx;rw [Zr7 hp hv];have hled:=h.led x a;show Zcy L x.2.1 (Y4 L (vpS L [] t) (Vz L t p) c) (Zh4 x.2.2 (Vz L t p) (Z8 L x.2.1 (x.2.2.getD (Vz L t p) 0)));rw [Xi h1];unfold Y4 Zh4;refine (Zcy.append (hled.take _) ?_).append (hled.drop _);rw [Xi hc,<- d,List.range_eq_range'];exact Zgy (hled.at hc h1) _ 0 (λ i hi=>by rw [Nat.zero_add];exact List.getElem?_eq_getElem hi)
 ·intro y hy
  obtain ⟨x,hx,rfl⟩:=List.mem_map.1 hy;obtain ⟨a,h1,h2,b,d⟩:=key x hx;obtain ⟨k1,_,k3,_⟩:=hn.ok x a;have hT:=(Ze.1 k1).2.2;obtain ⟨a1,_⟩:=Zgx hT h2;have hl:=h.len x a;have hw:=Zn1 (L:=L) (t:=x.2.1) h1 (Z8 L x.2.1 x.2.2[Vz L t p]);rw [Zr7 hp hv,Zxp hp hv];show _+wtL L x.2.1 (Zh4 x.2.2 (Vz L t p) (Z8 L x.2.1 (x.2.2.getD (Vz L t p) 0)))=x.2.1.length+(Y4 L (vpS L [] t) (Vz L t p) c).length;rw [Xi h1]
  have e:(Y4 L (vpS L [] t) (Vz L t p) c).length=(vpS L [] t).length-1+arN L (c:Int):=by
   unfold Y4;rw [Za1 hc];simp
  rw [e];omega
theorem Zrl (L:List Sym) (s:Nat):vpS L [] (Zv L s)=Xl L s:=by
 rw [(Zc4 L s []).1];simp [Xl,Y4,Zh4,Yf,ofN]
theorem Zu7 (hok:∀ x∈R,Zd L x.1=0∧Zd L x.2=0) (s:Nat):Zzw L R (Zv L s) (Yi L R s):=by
 have key:∀ y∈Yi L R s,∃ j,∃ h:j<R.length,y=((j:Int),R[j].1,Z8 L R[j].1 0)∧Zd L R[j].1=0∧0<R[j].1.length∧R[j].1.getD 0 0=(s:Int):=by
  intro y hy;obtain ⟨x,hx,rfl⟩:=List.mem_map.1 hy;obtain ⟨j,hj,rfl,h0,hp,hn⟩:=Zbl hok hx;refine ⟨j,hj,by simp [Je,Zh4],h0,hp,?_⟩;rw [Zci (by simp) (by simpa using hp)] at hn;rw [Xi hp]
  simpa using hn
 refine ⟨Zgo L s,?_,?_,?_⟩
 ·intro y hy
  obtain ⟨j,hj,rfl,_⟩:=key y hy;exact ⟨j,hj,rfl,rfl⟩
 ·intro y hy
  obtain ⟨j,hj,rfl,h0,hp,hs⟩:=key y hy;rw [(Zc4 L s []).1];have hl:(Z8 L R[j].1 0).length=arN L (s:Int):=by rw [Z9 hp,Zk];rw [Xi hp] at hs;rw [hs]
  rw [<- hl,List.range_eq_range'];exact Zgy (q:=0) (p:=Yf []) rfl _ 0 (λ i hi=>by rw [Nat.zero_add];exact List.getElem?_eq_getElem hi)
 ·intro y hy
  obtain ⟨j,hj,rfl,h0,hp,hs⟩:=key y hy;have hT:=(Ze.1 h0).2.2;obtain ⟨a1,_⟩:=Zgx hT hp;have e0:=Ze6 hT;rw [(Zc4 L s []).1,Zdj];simp only [List.length_map,List.length_range];show _+wtL L R[j].1 (Z8 L R[j].1 0)=_;omega
section
open Go.RowKit
attribute [local go_sem ↓] Go.wp_at_zero Go.wp_at_succ
def Zhh (L:List Sym) (t path:List Int):Int:=match leads L t 0 path with | some q=>(q:Int) | none=>-1
theorem Row.get {base:Nat} {v:Value} {xs:List Int} (h:Row base w v xs) {i:Nat} (hi:i<xs.length):∃ g cap,v=.slice (some ⟨g,0,none⟩) xs.length cap∧g<w.heap.size∧w.cell? ⟨g,i,none⟩=some (.int .i64 xs[i]):=by
 obtain ⟨g,cap,hv,_,hlt⟩:=h.form (by omega);subst hv;exact ⟨g,cap,rfl,hlt,(h.cellAt i (by omega)).trans (Zbt hi)⟩
theorem Zq0 (h:Rl n w rv L) (ht:Zh w ao t) (hm:t.length<=2000) (hT:IsT L t) (hp:Zh w po path) (hpm:path.length<=maxLen) :
  Calls prog 196 #[rv,.slice ao t.length cap,.int .i64 0,.slice po path.length pcap] w λ e w' => e=.returned (.int .i64 (Zhh L t path))∧Za w w' := by
 unfold maxLen at hpm;have c1:∀ w1 q,Za w w1->q<t.length->Calls prog 194 #[rv,.slice ao t.length cap,.int .i64 (q:Int)] w1 λ e w' => ∃ v,e=.returned v∧Row w1.heap.size w' v (ofN (Z8 L t q))∧Za w1 w' := λ w1 q hk hq=>Zbu (cap:=cap) (h.same hk) (ht.same hk) hm hT q hq
 obtain ⟨ro,rcap,rfl⟩:=Zf h.1
 go_enter func196,ntmps196
 go_wp2
 go_loopw [2,9] (λ at' i wr=>∃ k q:Nat,k<=path.length∧i=.int .i64 (k:Int)∧at' = .int .i64 (q:Int)∧q<t.length∧Hid (leads L t 0 path=leads L t q (path.drop k))∧Za w wr) (λ _ i _=>path.length-(intOf i).toNat)
 case atStart=>exact ⟨0,0,Nat.zero_le _,rfl,rfl,Z2 hT,by simp [Hid],Zc.refl _ _⟩
 case round=>
  obtain ⟨k,q,hk,rfl,rfl,hq,HL,hs⟩:=hrel
  by_cases hlt:k<path.length
  ·have cA:=c1 _ _ hs hq
   obtain ⟨pb,poff,rfl,hpb,hpc⟩:=(hp.same hs).get hlt;have i1:(0:Int)<=(k:Int):=by omega
   have i2:(k:Int)<(path.length:Int):=by omega
   have hlen:(ofN (Z8 L t q)).length=arN L t[q]:=by rw [Z9 hq];simp [ofN,Zk]
   clear c1
   go_wp2_with fail
   refine cA.mono ?_;rintro e w2 ⟨v,rfl,hr,hk2⟩;have hpc2:w2.cell? ⟨pb,poff+k,none⟩=some (.int .i64 path[k]):=(hk2.cell (p:=⟨pb,poff+k,none⟩) hpb (λ f=>f)).trans hpc;have hs2:=hs.trans' hk2;clear cA hpc
   by_cases hn0:path[k]<0
   ·have H:Hid (Zhh L t path = -1):=by
     have:=Zj2 HL.out hlt hq (.inl hn0);simp [Zhh,this,Hid]
    obtain ⟨vo,vcap,rfl⟩:=Zf hr;go_wp2;go_ret;exact ⟨Z3 H.out.symm,hs2⟩
   ·by_cases hna:(arN L t[q]:Int)<=path[k]
    ·have H:Hid (Zhh L t path = -1):=by
      have:=Zj2 HL.out hlt hq (.inr hna);simp [Zhh,this,Hid]
     obtain ⟨vo,vcap,rfl⟩:=Zf hr;have hna' : ((ofN (Z8 L t q)).length:Int)<=path[k]:=by omega
     go_wp2;go_ret;exact ⟨Z3 H.out.symm,hs2⟩
    ·obtain ⟨i,hi⟩:∃ i:Nat,path[k]=(i:Int):=⟨path[k].toNat,by omega⟩
     have hia:i<arN L t[q]:=by omega
     have HN:Hid (leads L t 0 path=leads L t (past L t i (q+1)) (path.drop (k+1))):=Zp9 HL.out hlt hq hi hia;have hpl:=Zss hT hq hia;obtain ⟨g,vcap,rfl,hg,hgc⟩:=hr.get (i:=i) (by omega)
     have hge:(ofN (Z8 L t q))[i]'(by omega)=((past L t i (q+1):Nat):Int):=by
      have e1:=Zbd (L:=L) (t:=t) (p:=q+1) hia;rw [<- Z9 hq] at e1;have e2:=(List.getElem?_eq_some_iff.1 e1).2;simp [ofN,e2]
     rw [hge] at hgc;rw [hi] at hpc2;have j1:(0:Int)<=(i:Int):=by omega
     have j2:(i:Int)<((ofN (Z8 L t q)).length:Int):=by omega
     have j3:¬ (ofN (Z8 L t q)).length<=i:=by omega
     have j4:decide ((ofN (Z8 L t q)).length<=i)=false:=by simp;omega
     clear hge hn0 hna HL hi;generalize (ofN (Z8 L t q)).length=N at *;generalize past L t i (q+1)=P at *;go_wp2;exact ⟨⟨k+1,P,by omega,by go_num,rfl,hpl,HN,hs2⟩,by simp [intOf];omega⟩
  ·have H:Hid (Zhh L t path=(q:Int)):=by
    have:=HL.out;rw [List.drop_eq_nil_of_le (by omega)] at this;simp [Zhh,this,leads,Hid]
   clear c1;go_wp2;go_ret;exact ⟨Z3 H.out.symm,hs⟩
structure Zgh (w wr:World) (ov:Value) (ao:Option Addr) (args:List Int) (out:List Int):Prop where
 row:Row w.heap.size wr ov out
 at' : Zh wr ao args
 ne:∀ a,ao=some a->ov.ownBlock≠some a.block
 lt:∀ a,ao=some a->a.block<wr.heap.size
 s:Za w wr
theorem Zgh.push {ov:Value} {args out:List Int} {x:Int} (h:Zgh w wr ov ao args out) (hr:Row w.heap.size w' (.slice (some ⟨g,0,none⟩) (out.length+1) cap) (out ++ [x])) (hk:Zc (λ k=>ov.ownBlock=some k) wr w') (hat:ov.ownBlock=some g∨wr.heap.size<=g) :
  Zgh w w' (.slice (some ⟨g,0,none⟩) (out.length+1) cap) ao args (out ++ [x]):=by
 refine ⟨hr,h.at'.kept hk (λ a e=>h.ne a e),?_,λ a e=>Nat.lt_of_lt_of_le (h.lt a e) hk.size,h.s.onto h.row hk⟩;intro a e e';simp only [Value.ownBlock,Option.some.injEq] at e'
 rcases hat with e1 | e1
 ·exact h.ne a e (by rw [e1,e'])
 ·have:=h.lt a e;omega
theorem Zl2 (i a:Nat) (st:List (Nat × Nat)):Yf ((i,a) :: st)=Yf st ++ [(i:Int)]:=by simp [Yf,ofN]
theorem Zj5 (h:Rl n w rv L) (ht:Zh w ao t) (hm:t.length<=2000) (hT:IsT L t) (p:Nat) (hp:p<t.length) :
  Calls prog 141 #[rv,.slice ao t.length cap,.int .i64 (p:Int)] w λ e w' => ∃ v,e=.returned v∧Row w.heap.size w' v (Yf (way L t p))∧Za w w' := by
 have c1:Hid (∀ w1 q,Za w w1->q<t.length->Calls prog 194 #[rv,.slice ao t.length cap,.int .i64 (q:Int)] w1 λ e w' => ∃ v,e=.returned v∧Row w1.heap.size w' v (ofN (Z8 L t q))∧Za w1 w'):=λ w1 q hk hq=>Zbu (cap:=cap) (h.same hk) (ht.same hk) hm hT q hq;have c2:Hid (∀ w1 q,Za w w1->q<t.length->Calls prog 195 #[rv,.slice ao t.length cap,.int .i64 (q:Int)] w1 λ e w' => e=.returned (.int .i64 (Zj L t q:Int))∧w' = w1):=λ w1 q hk hq=>Zhk (cap:=cap) (h.same hk) (ht.same hk) hm q (by omega);have HAR:Hid (∀ x,arN L x<=6):=λ x=>Vm h.2.2.1 x;obtain ⟨ro,rcap,rfl⟩:=Zf h.1
 go_enter func141,ntmps141
 go_wp2
 go_loopw [7,8] (λ ov hv wr=>∃ h:Nat,hv=.int .i64 (h:Int)∧h<=p∧p<Zj L t h∧Row w.heap.size wr ov (Yf (way L t h))∧Za w wr) (λ _ hv _=>p-(intOf hv).toNat)
 case atStart=>exact ⟨0,rfl,Nat.zero_le _,by rw [Ze6 hT];exact hp,World.ownsRow_nil _ _ _ _,Zc.refl _ _⟩
 case round=>
  obtain ⟨q0,rfl,hq1,hq2,hr,hs⟩:=hrel;obtain ⟨oo,ocap,rfl⟩:=Zf hr
  by_cases hlt:q0<p
  ·have hq0:q0<t.length:=by omega
   obtain ⟨i0,hi0,g1,g2,g3,g4,g5,g6⟩:=kid_in hT hq0 hlt hq2;have cA:=c1.out wr q0 hs hq0;have h6:=HAR.out t[q0];have hlen:(ofN (Z8 L t q0)).length=arN L t[q0]:=by rw [Z9 hq0];simp [ofN,Zk]
   have HG:Hid (∀ j,j<arN L t[q0]->(ofN (Z8 L t q0))[j]? = some ((past L t j (q0+1):Nat):Int)∧past L t j (q0+1)<t.length):=λ j hj=>by
    have e1:=Zbd (L:=L) (t:=t) (p:=q0+1) hj;rw [<- Z9 hq0] at e1;exact ⟨by simp [ofN,e1],Zss hT hq0 hj⟩
   have EW:Hid (Yf (way L t (past L t i0 (q0+1)))=Yf (way L t q0) ++ [(i0:Int)]):=by show _=_;rw [g5,Zl2]
   have HU:Hid (∀ j,j<arN L t[q0]->(past L t j (q0+1)<=p∧p<Zj L t (past L t j (q0+1)) ↔ j=i0)):=g6;have hwl:(Yf (way L t q0)).length<=2000:=by rw [Zbe];have:=Zf6 L t q0 (by omega);omega
   have hltI:(q0:Int)<(p:Int):=by omega
   clear g5 g6
   go_wp2_with fail
   refine cA.mono ?_;rintro e w2 ⟨va,rfl,ra,k2⟩;obtain ⟨aao,acap,rfl,ia,_,hab⟩:=ra.ints
   have S0:Zgh w w2 (.slice oo (Yf (way L t q0)).length ocap) aao (ofN (Z8 L t q0)) (Yf (way L t q0)):=by
    refine ⟨Zc.row k2 hr (λ _ _ f=>f),ia,?_,λ a e=>(hab a e).2,hs.trans' k2⟩;intro a e e';have:=(hr.lt _ e').2;have:=(hab a e).1;omega
   clear cA ra ia hab hr hs k2;obtain ⟨A,hA⟩:∃ A,A=arN L t[q0]:=⟨_,rfl⟩;rw [<- hA] at hlen HG HU hi0 h6;generalize hargs:ofN (Z8 L t q0)=args at *;rw [hlen];clear hargs hA;generalize hW:Yf (way L t q0)=W0 at *;have g1I:¬ (p:Int)<(past L t i0 (q0+1):Int):=by omega
   go_wp2;obtain ⟨wo,rfl⟩:∃ wo:World,wo=wr:=⟨_,rfl⟩
   go_loopw [7,10,11] (λ ov nv kv wr=>∃ k:Nat,k<=A∧kv=.int .i64 (k:Int)∧((k<=i0∧nv=.int .i64 (q0:Int)∧Zgh w wr ov aao args W0)∨(i0<k∧nv=.int .i64 (past L t i0 (q0+1):Int)∧Zgh w wr ov aao args (W0 ++ [(i0:Int)])))) (λ _ _ kv _=>A-(intOf kv).toNat)
   case atStart=>exact ⟨0,Nat.zero_le _,rfl,.inl ⟨Nat.zero_le _,rfl,S0⟩⟩
   case round=>
    clear S0;obtain ⟨k,hkA,rfl,hcase⟩:=hrel
    by_cases hkl:k<A
    ·obtain ⟨hg1,hg2⟩:=HG.out k hkl
     obtain ⟨hgl,hge⟩:=List.getElem?_eq_some_iff.1 hg1;have hu:=HU.out k hkl;have m0:(0:Int)<=(k:Int):=by omega
     have m1:(k:Int)<(A:Int):=by omega
     rcases hcase with ⟨hki,rfl,hS⟩ | ⟨hki,rfl,hS⟩
     ·obtain ⟨ab,aoff,rfl,_,hac⟩:=hS.at'.get hgl
      rw [hge] at hac;have cE:=c2.out wr _ hS.s hg2
      by_cases hke:k=i0
      ·subst hke
       obtain ⟨vo,vcap,rfl⟩:=Zf hS.row;have hPp:((past L t k (q0+1):Nat):Int)<=(p:Int):=by omega
       have hpE:(p:Int)<(Zj L t (past L t k (q0+1)):Int):=by omega
       have hb8:(W0.length+1) * 8<=140737488355328:=by omega
       have hrow:=hS.row;have hss:=hS.s.size;clear hg1 hge hu;have hacs:∀ w', Zc (λ k=>Value.ownBlock (.slice vo W0.length vcap)=some k) wr w' -> w'.cell? ⟨ab,aoff+k,none⟩=some (.int .i64 ((past L t k (q0+1):Nat):Int)):=λ w' hk=>(hk.cell (p:=⟨ab,aoff+k,none⟩) (hS.lt ⟨ab,aoff,none⟩ rfl) (hS.ne ⟨ab,aoff,none⟩ rfl)).trans hac;have HACS:Hid (∀ w', Zc (λ k=>Value.ownBlock (.slice vo W0.length vcap)=some k) wr w' -> w'.cell? ⟨ab,aoff+k,none⟩=some (.int .i64 ((past L t k (q0+1):Nat):Int))):=hacs;clear hacs;generalize past L t k (q0+1)=P at *
       go_wp2_with (first | (go_at_call 195;refine cE.mono ?_;rintro e wr ⟨rfl,rfl⟩) | (at_builtin;refine Yz rfl _ _ 51 rfl underlying51 w.heap.size W0 _ rfl hrow (k:Int) rfl hss hb8 ?_;intro g gcap w4 hr4 hk4 hat4;have hS4:=hS.push hr4 hk4 hat4;have hac4:=HACS.out _ hk4))
       go_roundw
       case rel=>first | exact ⟨k+1,by omega,by go_num,.inr ⟨by omega,rfl,hS4⟩⟩ | ((repeat apply Exists.intro);exact ⟨⟨k+1,by omega,by go_num,.inr ⟨by omega,rfl,hS4⟩⟩,rfl⟩)
       case measure=>simp [intOf];omega
      ·have hno:¬ (past L t k (q0+1)<=p∧p<Zj L t (past L t k (q0+1))):=λ e=>hke (hu.1 e)
       obtain ⟨vo,vcap,rfl⟩:=Zf hS.row;clear hg1 hge hu;generalize past L t k (q0+1)=P at *
       by_cases hPp:P<=p
       ·have hPi:((P:Nat):Int)<=(p:Int):=by omega
        have hpE:¬ (p:Int)<(Zj L t P:Int):=by omega
        clear hno
        go_wp2_with ((go_at_call 195;refine cE.mono ?_;rintro e wr ⟨rfl,rfl⟩))
        go_roundw
        case rel=>first | exact ⟨k+1,by omega,by go_num,.inl ⟨by omega,rfl,hS⟩⟩ | ((repeat apply Exists.intro);exact ⟨⟨k+1,by omega,by go_num,.inl ⟨by omega,rfl,hS⟩⟩,rfl⟩)
        case measure=>simp [intOf];omega
       ·have hPi:¬ ((P:Nat):Int)<=(p:Int):=by omega
        clear hno cE;go_wp2;go_roundw
        case rel=>first | exact ⟨k+1,by omega,by go_num,.inl ⟨by omega,rfl,hS⟩⟩ | ((repeat apply Exists.intro);exact ⟨⟨k+1,by omega,by go_num,.inl ⟨by omega,rfl,hS⟩⟩,rfl⟩)
        case measure=>simp [intOf];omega
     ·obtain ⟨ab,aoff,rfl,_,hac⟩:=hS.at'.get hgl
      rw [hge] at hac;have cE:=c2.out wr _ hS.s hg2;have hno:¬ (past L t k (q0+1)<=p∧p<Zj L t (past L t k (q0+1))):=λ e=>by have:=hu.1 e;omega
      obtain ⟨vo,vcap,rfl⟩:=Zf hS.row;have hl1:(W0 ++ [(i0:Int)]).length=W0.length+1:=by simp
      rw [hl1] at hS ⊢;clear hl1;clear hg1 hge hu;generalize past L t k (q0+1)=P at *
      by_cases hPp:P<=p
      ·have hPi:((P:Nat):Int)<=(p:Int):=by omega
       have hpE:¬ (p:Int)<(Zj L t P:Int):=by omega
       clear hno
       go_wp2_with ((go_at_call 195;refine cE.mono ?_;rintro e wr ⟨rfl,rfl⟩))
       go_roundw
       case rel=>first | exact ⟨k+1,by omega,by go_num,.inr ⟨by omega,rfl,hS⟩⟩ | ((repeat apply Exists.intro);exact ⟨⟨k+1,by omega,by go_num,.inr ⟨by omega,rfl,hS⟩⟩,rfl⟩)
       case measure=>simp [intOf];omega
      ·have hPi:¬ ((P:Nat):Int)<=(p:Int):=by omega
       clear hno cE;go_wp2;go_roundw
       case rel=>first | exact ⟨k+1,by omega,by go_num,.inr ⟨by omega,rfl,hS⟩⟩ | ((repeat apply Exists.intro);exact ⟨⟨k+1,by omega,by go_num,.inr ⟨by omega,rfl,hS⟩⟩,rfl⟩)
       case measure=>simp [intOf];omega
    ·obtain rfl:k=A:=by omega
     rcases hcase with ⟨hki,rfl,hS⟩ | ⟨hki,rfl,hS⟩
     ·omega
     ·obtain ⟨vo,vcap,rfl⟩:=Zf hS.row
      have hrw:=hS.row;have hs9:=hS.s;rw [<- EW.out] at hrw;have hne:((past L t i0 (q0+1):Int) == (q0:Int))=false:=by simp;omega
      have hne' : ¬ (past L t i0 (q0+1):Int)=(q0:Int):=by omega
      have hne'' : ¬ past L t i0 (q0+1)=q0:=by omega
      clear hS;rw [<- EW.out];generalize hPP:past L t i0 (q0+1)=P at *;go_wp2;go_roundw
      case rel=>first | exact ⟨P,rfl,g1,g2,hrw,hs9⟩ | ((repeat apply Exists.intro);exact ⟨⟨P,rfl,g1,g2,hrw,hs9⟩,rfl⟩)
      case measure=>simp [intOf];omega
  ·obtain rfl:q0=p:=by omega
   go_wp2;go_ret;exact ⟨_,rfl,hr,hs⟩
theorem Zvr (w:World) (base:Nat) (hb:base<=w.heap.size) (z:Int):Row base (w.alloc (.cells #[.int .i64 z] 3)) (.slice (some ⟨w.heap.size,0,none⟩) 1 1) [z]:=
 ⟨rfl,.inr ⟨w.heap.size,1, #[.int .i64 z],rfl,hb,heap_alloc_new w _,Nat.le_refl _,by unfold maxLen;omega,rfl,rfl⟩⟩
theorem Zyd (h:Rl n w rv L) (ht:Zh w ao t) (hm:t.length<=2000) (hT:IsT L t) (hp:Zh w po path) (hpm:path.length<=maxLen) {q:Nat} (hq:leads L t 0 path=some q) (hlt:q<t.length) :
  Calls prog 142 #[rv,.slice ao t.length cap,.slice po path.length pcap] w λ e w' => e=.returned (.int .i64 t[q])∧Za w w' := by
 have C:=Zq0 (cap:=cap) (pcap:=pcap) h ht hm hT hp hpm;have e0:Zhh L t path=(q:Int):=by simp [Zhh,hq]
 rw [e0] at C;obtain ⟨ro,rcap,rfl⟩:=Zf h.1;obtain ⟨tb,off,rfl,htb,hc⟩:=ht.get hlt;have HC:Hid (∀ ww,Za w ww->ww.cell? ⟨tb,off+q,none⟩=some (.int .i64 t[q])):=λ ww hk=>(hk.cell (p:=⟨tb,off+q,none⟩) htb (λ f=>f)).trans hc;have i1:(0:Int)<=(q:Int):=by omega
 have i2:(q:Int)<(t.length:Int):=by omega
 have i3:¬ (q:Int)<0:=by omega
 clear h ht hp hq hc e0 hT;generalize t[q]=x at *
 go_enter func142,ntmps142
 go_wp2_with ((go_at_call 196;refine C.mono ?_;rintro e w1 ⟨rfl,k1⟩;have hc1:=HC.out w1 k1))
 go_ret;exact ⟨rfl,k1⟩
theorem Zf2 (h:Rl n w rv L) (hc:c<L.length) :
  Calls prog 99 #[rv,.int .i64 (c:Int)] w λ e w' => ∃ v,e=.returned v∧Row w.heap.size w' v (Zv L c)∧Za w w' := by
 have h6:=Vm h.2.2.1 (c:Int)
 have CA:∀ ww,Za w ww->Calls prog 144 #[rv,.int .i64 (c:Int)] ww λ e w' => e=.returned (.int .i64 (arN L (c:Int):Int))∧w' = ww:=λ ww hk=>by
  have:=Zfm (h.same hk) (c:Int);rw [if_neg (by omega)] at this;exact this
 have CAH:Hid (∀ ww,Za w ww->Calls prog 144 #[rv,.int .i64 (c:Int)] ww λ e w' => e=.returned (.int .i64 (arN L (c:Int):Int))∧w' = ww):=CA
 have FR:Hid (∀ k,k<=arN L (c:Int)->((c:Int) :: List.replicate k (-1)) ++ [-1]=(c:Int) :: List.replicate (k+1) (-1)):=λ k _=>by
  rw [List.replicate_succ'];rfl
 have FE:Hid (Zv L c=(c:Int) :: List.replicate (arN L (c:Int)) (-1)):=rfl;obtain ⟨ro,rcap,rfl⟩:=Zf h.1;obtain ⟨A,hA⟩:∃ A,A=arN L (c:Int):=⟨_,rfl⟩;rw [<- hA] at CAH FR FE h6;clear CA hA h;have S0:Za w (w.alloc (.cells #[.int .i64 (c:Int)] 3)):=(Zc.refl _ w).alloc _;have R0:Row w.heap.size (w.alloc (.cells #[.int .i64 (c:Int)] 3)) (.slice (some ⟨w.heap.size,0,none⟩) 1 1) [(c:Int)]:=Zvr w w.heap.size (Nat.le_refl _) (c:Int)
 go_enter func99,ntmps99
 go_wp2
 go_loopw [5,6] (λ v i wr=>∃ k:Nat,k<=A∧i=.int .i64 (k:Int)∧Row w.heap.size wr v ((c:Int) :: List.replicate k (-1))∧Za w wr) (λ _ i _=>A-(intOf i).toNat)
 case atStart=>exact ⟨0,Nat.zero_le _,rfl,R0,S0⟩
 case round=>
  clear R0 S0;obtain ⟨k,hk,rfl,hr,hs⟩:=hrel;obtain ⟨vo,vc,rfl⟩:=Zf hr;have C1:=CAH.out wr hs
  by_cases hlt:k<A
  ·have i2:(k:Int)<(A:Int):=by omega
   have E:=FR.out k (by omega);have HE:Hid (((c:Int) :: List.replicate k (-1)) ++ [-1]=(c:Int) :: List.replicate (k+1) (-1)):=E;have zA:=hs.size;have hlen:((c:Int) :: List.replicate k (-1)).length=k+1:=by simp
   have hb8:(((c:Int) :: List.replicate k (-1)).length+1) * 8<=140737488355328:=by omega
   clear E hlen;generalize ((c:Int) :: List.replicate k (-1))=xs at *
   go_wp2_with (first | (go_at_call 144;refine C1.mono ?_;rintro e w1 ⟨rfl,rfl⟩) | (at_builtin;refine Yz rfl _ _ 74 rfl underlying74 w.heap.size xs _ rfl hr (-1) rfl zA hb8 ?_;intro g cap w4 hr4 hk4 hat4))
   refine ⟨⟨k+1,by omega,by go_num,?_,Zc.trans hs hk4 (λ i hi e=>by have:=(hr.lt i e).1;omega)⟩,by simp [intOf];omega⟩;rw [<- HE.out];exact hr4
  ·obtain rfl:k=A:=by omega
   have hlen:((c:Int) :: List.replicate k (-1)).length=k+1:=by simp
   rw [hlen] at hr;clear hlen
   go_wp2_with ((go_at_call 144;refine C1.mono ?_;rintro e w1 ⟨rfl,rfl⟩))
   go_ret;exact ⟨_,rfl,by rw [FE.out];exact hr,hs⟩
def PlcZ (L:List Sym) (t:List Int) (rows:List Rw) (z:Int):Prop:=
 (z = -1∧Y6 rows (vpS L [] t).length=none)∨∃ p:Nat,z=(p:Int)∧∃ hp:p<t.length,t[p]<0∧Y6 rows (vpS L [] t).length=some (Vz L t p)
structure NdD (w:World) (L:List Sym) (R:List Ru) (n:Nat) (rv:Value) (mo tn so:Option Addr) (tc:Nat) (t:List Int) (rows:List Rw):Prop where
 rl:Rl w.heap.size w rv L
 rs:Vh w mo R
 le:R.length<=100
 ti:Zh w tn t
 cap:t.length<=tc
 si:Zh w so (rows.map (·.1))
 dn:Zzw L R t rows
 nk:Ztq L n (vpS L [] t) rows
theorem NdD.same {rows:List Rw} (h:NdD w L R n rv mo tn so tc t rows) (hk:Za w w'):NdD w' L R n rv mo tn so tc t rows:=
 ⟨Zod (h.rl.same hk) hk.size,h.rs.same hk,h.le,h.ti.same hk,h.cap,h.si.same hk,h.dn,h.nk⟩
theorem Zgl {rows:List Rw} (h:Y6 rows c=none):(Zfd rows c=true->∀ k,c<k->Y6 rows k=some c)∧(Zfd rows c=false->Y6 rows (c+1)=none):=by
 refine ⟨λ hc k hk=>?_,λ hc=>?_⟩
 ·induction k with
  | zero=>omega
  | succ k ih=>
   unfold Y6
   by_cases e:c=k
   ·subst e;rw [h,hc];rfl
   ·rw [ih (by omega)]
 ·unfold Y6;rw [h,hc];rfl
theorem Zrc {rows:List Rw} (h:k<rows.length):Zfd (rows.take (k+1)) c=(Zfd (rows.take k) c && decide (0<=Vr rows[k] c)):=by
 unfold Zfd;rw [List.take_add_one,List.getElem?_eq_getElem h,List.all_append];simp
theorem NdD.at' {rows:List Rw} (h:NdD w L R n rv mo tn so tc t rows) (hk:k<rows.length) (hc:c<(vpS L [] t).length) :
  ∃ sb soff mb moff,so=some ⟨sb,soff,none⟩∧mo=some ⟨mb,moff,none⟩∧∃ j:Nat,j<R.length∧rows[k].1=(j:Int)∧∀ ww,Za w ww->ww.cell? ⟨sb,soff+k,none⟩=some (.int .i64 (j:Int))∧∃ ao al ac,ww.cell? ⟨mb,moff+j * 2,none⟩=some (.slice ao al ac) ∧
   ∀ po pc,Zh ww po (vpS L [] t)[c]->Calls prog 142 #[rv,.slice ao al ac,.slice po (vpS L [] t)[c].length pc] ww λ e w' => e=.returned (.int .i64 (Vr rows[k] c))∧Za ww w' := by
 obtain ⟨j,hj,e1,e2⟩:=h.dn.row _ (List.getElem_mem hk);obtain ⟨k1,k2,k3,_⟩:=h.nk.ok _ (List.getElem_mem hk);have hz:=Ze.1 k1;have hc' : c<rows[k].2.2.length:=by omega
 have hq:=k3 _ (List.getElem_mem hc');have hl:=(h.dn.led _ (List.getElem_mem hk)).at hc hc';have hn:=Zci hc' hq;have hpl:=(h.nk.len _ (List.getElem_mem hc)).2;have hsk:k<(rows.map (·.1)).length:=by simpa using hk
 obtain ⟨sb,soff,rfl,hsb,hsc⟩:=h.si.get hsk;obtain ⟨mb,moff,rfl,hmb,ao,ac,bo,bc,r0,r1,A1,_⟩:=h.rs.get hj;refine ⟨sb,soff,mb,moff,rfl,rfl,j,hj,e1,λ ww hw=>⟨?_,ao,rows[k].2.1.length,ac,(by rw [e2];exact (hw.cell (p:=⟨mb,moff+j * 2,none⟩) hmb (λ f=>f)).trans r0),λ po pc hp=>?_⟩⟩
 ·have:=(hw.cell (p:=⟨sb,soff+k,none⟩) hsb (λ f=>f)).trans hsc
  rw [this,List.getElem_map,e1]
 ·rw [hn]
  have A2:Zh ww ao rows[k].2.1:=by rw [e2];exact (A1.same hw).at'
  exact Zyd (cap:=ac) (pcap:=pc) (h.same hw).rl A2 hz.1 hz.2.2 hp (by unfold maxLen;omega) hl hq
theorem Zgf {rows:List Rw} (h:NdD w L R n rv mo tn so tc t rows) (hm:t.length<=2000) (mc sc:Nat) :
  Calls prog 140 #[rv,.slice mo R.length mc,.slice tn t.length tc,.slice so rows.length sc] w λ e w' => ∃ z,e=.returned (.int .i64 z)∧Hid (PlcZ L t rows z)∧Za w w' := by
 have hrl:=h.nk.le;have hRl:=h.le
 have CP:Hid (∀ ww i,Za w ww->i<t.length->Calls prog 141 #[rv,.slice tn t.length tc,.int .i64 (i:Int)] ww λ e w' => ∃ po pc,e=.returned (.slice po (Yf (way L t i)).length pc)∧Hid (Zh w' po (Yf (way L t i)))∧Za ww w'):=λ ww i hk hi=>(Zj5 (cap:=tc) (h.same hk).rl (h.ti.same hk) hm h.dn.isT i hi).mono (λ e w' ⟨v,e1,r,k⟩=>by
  obtain ⟨ao,cap,rfl,ia,_,_⟩:=r.ints
  exact ⟨ao,cap,e1,ia,k⟩)
 have HH:Hid (∀ ww,Za w ww->NdD ww L R n rv mo tn so tc t rows):=λ ww hk=>h.same hk;obtain ⟨ro,rcap,rfl⟩:=Zf h.rl.1;clear h
 go_enter func140,ntmps140
 go_wp2
 go_loopw [9] (λ i wr=>∃ k:Nat,k<=t.length∧i=.int .i64 (k:Int)∧Hid (Y6 rows (Vz L t k)=none)∧Za w wr) (λ i _=>t.length-(intOf i).toNat)
 case atStart=>exact ⟨0,Nat.zero_le _,rfl,rfl,Zc.refl _ _⟩
 case round=>
  obtain ⟨k,hk,rfl,hN,hs⟩:=hrel
  by_cases hlt:k<t.length
  ·obtain ⟨tb,toff,rfl,htb,htc⟩:=(HH.out wr hs).ti.get hlt
   have i1:(0:Int)<=(k:Int):=by omega
   have i2:(k:Int)<(t.length:Int):=by omega
   by_cases hv:t[k]<0
   ·have hv2:¬ (0:Int)<=t[k]:=by omega
    have hcl:=Zxj (L:=L) hlt hv;have hcn:=Znv (L:=L) hlt;rw [if_pos hv] at hcn;have HCN:Hid (Vz L t (k+1)=Vz L t k+1):=hcn
    have hpc:(vpS L [] t)[Vz L t k]=Yf (way L t k):=by
     have:=Zls (L:=L) hlt hv;rw [List.getElem?_eq_getElem hcl] at this
     simpa using this
    have C1:=CP.out wr k hs hlt;have PZ:Hid (Zfd rows (Vz L t k)=true->PlcZ L t rows (k:Int)):=λ hc=>.inr ⟨k,rfl,hlt,hv,(Zgl hN.out).1 hc _ hcl⟩;have NZ:Hid (Zfd rows (Vz L t k)=false->Y6 rows (Vz L t (k+1))=none):=λ hc=>by rw [HCN.out];exact (Zgl hN.out).2 hc
    have HA:Hid (∀ ww,Za w ww->∀ (m:Nat) (hm:m<rows.length),∃ sb soff mb moff,so=some ⟨sb,soff,none⟩∧mo=some ⟨mb,moff,none⟩∧∃ j:Nat,j<R.length∧ww.cell? ⟨sb,soff+m,none⟩=some (.int .i64 (j:Int))∧∃ ao al ac,ww.cell? ⟨mb,moff+j * 2,none⟩=some (.slice ao al ac)∧∀ po pc,Zh ww po (Yf (way L t k))->Calls prog 142 #[.slice ro L.length rcap,.slice ao al ac,.slice po (Yf (way L t k)).length pc] ww λ e w' => e=.returned (.int .i64 (Vr rows[m] (Vz L t k)))∧Za ww w'):=λ ww hk2 m hm2=>by
     obtain ⟨sb,soff,mb,moff,e1,e2,j,hj,e3,HF⟩:=(HH.out ww hk2).at' hm2 hcl;obtain ⟨f1,ao,al,ac,f2,CA⟩:=HF ww (Zc.refl _ _);rw [hpc] at CA;exact ⟨sb,soff,mb,moff,e1,e2,j,hj,f1,ao,al,ac,f2,CA⟩
    have C0:Zfd (rows.take 0) (Vz L t k)=true:=rfl;clear hcl hcn hpc hv HCN HH CP hN;generalize Vz L t k=c at *;generalize Yf (way L t k)=P at *
    go_wp2_with ((go_at_call 141;refine C1.mono ?_;rintro e w2 ⟨po,pc,rfl,hpi,k2⟩))
    have hs2:Za w w2:=hs.trans' k2;have HPI:Hid (∀ ww,Za w2 ww->Zh ww po P):=λ ww hk=>hpi.out.same hk;clear C1 hpi;obtain ⟨wo,rfl⟩:∃ wo:World,wo=wr:=⟨_,rfl⟩
    go_loopw [11,12] (λ av kv wi=>∃ m:Nat,m<=rows.length∧kv=.int .i64 (m:Int)∧av=.bool (Zfd (rows.take m) c)∧Za w2 wi) (λ _ kv _=>rows.length-(intOf kv).toNat)
    case atStart=>exact ⟨0,Nat.zero_le _,rfl,rfl,Zc.refl _ _⟩
    case round=>
     obtain ⟨m,hml,rfl,rfl,hsi⟩:=hrel
     by_cases hmlt:m<rows.length
     ·obtain ⟨sb,soff,mb,moff,rfl,rfl,j,hj,f1,ao,al,ac,f2,CA⟩:=HA.out _ (hs2.trans' hsi) m hmlt
      have C2:=CA po pc (HPI.out _ hsi);have CT:Hid (Zfd (rows.take (m+1)) c=(Zfd (rows.take m) c && decide (0<=Vr rows[m] c))):=Zrc hmlt;have j1:(0:Int)<=(m:Int):=by omega
      have j2:(m:Int)<(rows.length:Int):=by omega
      have j3:(0:Int)<=(j:Int):=by omega
      have j4:(j:Int)<(R.length:Int):=by omega
      clear CA HA hj PZ NZ
      by_cases hz:Vr rows[m] c<0
      ·have CF:Hid (Zfd (rows.take (m+1)) c=false):=by show _=_;rw [CT.out];simp;omega
       clear CT;generalize Vr rows[m] c=z at *
       go_wp2_with ((go_at_call 142;refine C2.mono ?_;rintro e w5 ⟨rfl,k5⟩))
       go_roundw
       case rel=>exact ⟨m+1,by omega,by go_num,by rw [CF.out],hsi.trans' k5⟩
       case measure=>simp [intOf];omega
      ·have CF:Hid (Zfd (rows.take (m+1)) c=Zfd (rows.take m) c):=by
        show _=_;have e0:decide (0<=Vr rows[m] c)=true:=by simp;omega
        rw [CT.out,e0,Bool.and_true]
       clear CT;generalize Vr rows[m] c=z at *;generalize Zfd (rows.take m) c=bb at *
       go_wp2_with ((go_at_call 142;refine C2.mono ?_;rintro e w5 ⟨rfl,k5⟩))
       go_roundw
       case rel=>exact ⟨m+1,by omega,by go_num,by rw [CF.out],hsi.trans' k5⟩
       case measure=>simp [intOf];omega
     ·obtain rfl:m=rows.length:=by omega
      rw [List.take_length];clear HA;cases hb:Zfd rows c with
      | true=>
       have P1:Hid (PlcZ L t rows (k:Int)):=PZ.out hb;clear PZ NZ hb C0
       go_wp2_with fail
       go_ret;exact ⟨_,rfl,P1,hs2.trans' hsi⟩
      | false=>
       have P1:Hid (Y6 rows (Vz L t (k+1))=none):=NZ.out hb;clear PZ NZ hb C0
       go_wp2_with fail
       go_roundw
       case rel=>exact ⟨k+1,by omega,by go_num,P1,hs2.trans' hsi⟩
       case measure=>simp [intOf];omega
   ·have hv2:(0:Int)<=t[k]:=by omega
    have hcn:=Znv (L:=L) hlt;rw [if_neg hv] at hcn;have P1:Hid (Y6 rows (Vz L t (k+1))=none):=by show _=_;rw [hcn];exact hN.out
    clear hcn hN
    go_wp2_with fail
    go_roundw
    case rel=>exact ⟨k+1,by omega,by go_num,P1,hs⟩
    case measure=>simp [intOf];omega
  ·obtain rfl:k=t.length:=by omega
   have P1:Hid (PlcZ L t rows (-1)):=.inl ⟨rfl,by rw [<- Zzz (L:=L)];exact hN.out⟩;clear hN
   go_wp2_with fail
   go_ret;exact ⟨_,rfl,P1,hs⟩
theorem Zpr {w0 W:World} {ops:Array Oper} {rest:List Oper} {o:Oper} {a:Act} {Q:Exit->Act->World->Prop} (hgd:o.guard=none) (s x:Operand)
  (ho:o.op=.call { callee:=.builtin .append,args:=#[s,x],argTypes:=#[61,61] })
  (base N:Nat) (vs:List Value) (v:Value) (hs:a.eval s=v) (hW:Za w0 W) (hr:w0.ownsRow base 161 5 v N vs) (A C D F G:Value) (q:Nat) (hx:a.eval x=.slice (some ⟨q,0,none⟩) 1 1) (hq:W.heap[q]? = some (.cells #[A,C,D,F,G] 161 (0,0))) (hA:A.oneCell' = true) (hC:C.oneCell' = true) (hD:D.oneCell' = true) (hF:F.oneCell' = true) (hG:G.oneCell' = true) (hb:base<=w0.heap.size) (hsz:N<=1000)
  (h:∀ g cap w', w'.ownsRow base 161 5 (.slice (some ⟨g,0,none⟩) (N+1) cap) (N+1) (vs ++ [A,C,D,F,G])->Zc (λ k=>v.ownBlock=some k) w0 w' -> (v.ownBlock=some g∨w0.heap.size<=g)->wpList prog ops Q rest (a.put o.dst (.slice (some ⟨g,0,none⟩) (N+1) cap)) w') :
  wpList prog ops Q (o :: rest) a W:=by
 obtain ⟨i,hi,hz0,hz1,hz2⟩:=info_parts Znm;refine wpList_append_lies _ hgd s x 61 ho base 161 i _ 5 72 underlying61 hi hz0 hz1 hz2 rfl (by decide) v N vs hs (hW.row hr (λ _ _ f=>f)) ⟨q,0,none⟩ 1 1 [A,C,D,F,G] hx rfl (World.news_of_block (cs:=#[A,C,D,F,G]) (t:=161) (fr:=(0,0)) hq) (by intro u hu;simp at hu;rcases hu with rfl | rfl | rfl | rfl | rfl <;> assumption) (by omega) (by unfold maxLen;omega) (by omega) (Nat.le_trans hb hW.size) W.heap.size rfl ?_;intro g cap w' hown hgrow hat hlt;exact h g cap w' hown (Zc.grown (Zc.mono hW (λ _ _ f=>f.elim)) hgrow (λ _ e _=>e)) (hat.imp id (λ e=>by have:=hW.size;omega))
def Ke {n:Nat} (w:World) (r:Except Int (Tr n)) (e:Ending) (w' : World):Prop:=
 match r with
 | .ok t=>∃ v,e=.returned (.tuple #[v,.int .i64 (-1)])∧CsB (λ b=>w.heap.size<=b) w' n v t∧Za w w'
 | .error z=>e=.returned (.tuple #[K9,.int .i64 z])∧0<=z∧Za w w'
def Zxe (L:List Sym) (R:List Ru) (n:Nat):Prop:=∀ (w:World) (rv:Value) (mo tn so:Option Addr) (tc:Nat) (t:List Int) (rows:List Rw),NdD w L R n rv mo tn so tc t rows->∀ mc sc:Nat,
 Calls prog 98 #[rv,.slice mo R.length mc,.slice tn t.length tc,.slice so rows.length sc] w (Ke w (Y5 L n (vpS L [] t) rows))
theorem Za4 {x0 x1 x3:Value} (ww:World) (hk:Za (w.alloc Zy) ww):((((((ww.setCell ⟨w.heap.size,0,none⟩ x0).setCell ⟨w.heap.size,1,none⟩ x1).setCell ⟨w.heap.size,2,none⟩ x2).setCell ⟨w.heap.size,3,none⟩ x3).cell? ⟨w.heap.size,0,none⟩=some x0)∧((((ww.setCell ⟨w.heap.size,0,none⟩ x0).setCell ⟨w.heap.size,1,none⟩ x1).setCell ⟨w.heap.size,2,none⟩ x2).setCell ⟨w.heap.size,3,none⟩ x3).cell? ⟨w.heap.size,1,none⟩=some x1∧((((ww.setCell ⟨w.heap.size,0,none⟩ x0).setCell ⟨w.heap.size,1,none⟩ x1).setCell ⟨w.heap.size,2,none⟩ x2).setCell ⟨w.heap.size,3,none⟩ x3).cell? ⟨w.heap.size,2,none⟩=some x2∧((((ww.setCell ⟨w.heap.size,0,none⟩ x0).setCell ⟨w.heap.size,1,none⟩ x1).setCell ⟨w.heap.size,2,none⟩ x2).setCell ⟨w.heap.size,3,none⟩ x3).cell? ⟨w.heap.size,3,none⟩=some x3)∧Zc (λ q=>q=w.heap.size) ww ((((ww.setCell ⟨w.heap.size,0,none⟩ x0).setCell ⟨w.heap.size,1,none⟩ x1).setCell ⟨w.heap.size,2,none⟩ x2).setCell ⟨w.heap.size,3,none⟩ x3)∧Za w ((((ww.setCell ⟨w.heap.size,0,none⟩ x0).setCell ⟨w.heap.size,1,none⟩ x1).setCell ⟨w.heap.size,2,none⟩ x2).setCell ⟨w.heap.size,3,none⟩ x3):=by
 have rs:ww.heap[w.heap.size]? = some (.cells #[.int .i64 0,.int .i64 0,.slice none 0 0,.slice none 0 0] 63 (0,0)):=hk.at0 (heap_alloc_new w _);have s3:=Zt (Zt (Zt (Zt rs 0 x0) 1 x1) 2 x2) 3 x3;have k1:=Zc.setCell (p:=⟨w.heap.size,0,none⟩) (Zc.refl (λ q=>q=w.heap.size) ww) (λ _=>rfl) x0;have k2:=Zc.setCell (p:=⟨w.heap.size,1,none⟩) k1 (λ _=>rfl) x1;have k3:=Zc.setCell (p:=⟨w.heap.size,2,none⟩) k2 (λ _=>rfl) x2;have k4:=Zc.setCell (p:=⟨w.heap.size,3,none⟩) k3 (λ _=>rfl) x3;have ka:Za w (w.alloc Zy):=(Zc.refl _ w).alloc _;exact ⟨⟨Zb s3 0,Zb s3 1,Zb s3 2,Zb s3 3⟩,k4,Zc.trans (ka.trans' hk) k4 (λ i hi e=>by have e' : i=w.heap.size:=e;omega)⟩
theorem Kk (ww:World) (hk:Za (w.alloc Zy) ww):(ww.cell? ⟨w.heap.size,0,none⟩=some (.int .i64 0)∧ww.cell? ⟨w.heap.size,1,none⟩=some (.int .i64 0)∧ww.cell? ⟨w.heap.size,2,none⟩=some (.slice none 0 0)∧ww.cell? ⟨w.heap.size,3,none⟩=some (.slice none 0 0))∧ww.frozen? ⟨w.heap.size,0,none⟩=false∧ww.frozen? ⟨w.heap.size,1,none⟩=false∧ww.frozen? ⟨w.heap.size,2,none⟩=false∧ww.frozen? ⟨w.heap.size,3,none⟩=false:=by
 have rs:ww.heap[w.heap.size]? = some (.cells #[.int .i64 0,.int .i64 0,.slice none 0 0,.slice none 0 0] 63 (0,0)):=hk.at0 (heap_alloc_new w _);exact ⟨⟨Zb rs 0,Zb rs 1,Zb rs 2,Zb rs 3⟩,Zg rs 0,Zg rs 1,Zg rs 2,Zg rs 3⟩
theorem Ztz (mc sc:Nat) (hrv:∃ ro rc,rv=.slice ro L.length rc) :
  Calls prog 98 #[rv,.slice mo R.length mc,.slice tn t.length tc,.slice so 0 sc] w (@Ke (n+1) w (.ok (3,0,[],[]))):=by
 obtain ⟨ro,rc,rfl⟩:=hrv;obtain ⟨⟨r0,r1,r2,r3⟩,f0,f1,f2,f3⟩:=Kk (w.alloc Zy) (Zc.refl _ _)
 go_enter func98,ntmps98
 go_wp2;exact bodyPost_ret (v:=.tuple #[.agg #[.int .i64 3,.int .i64 0,.slice none 0 0,.slice none 0 0],.int .i64 (-1)]) (by simp [results,results98,go_sem]) rfl ⟨_,rfl,Zhv _ _ _ _ _,(Zc.refl _ w).alloc _⟩
theorem Zgb {rows:List Rw} (h:NdD w L R n rv mo tn so tc t rows) (hne:rows≠[]) (hp:Y6 rows (vpS L [] t).length=none) (mc sc:Nat) :
  Calls prog 140 #[rv,.slice mo R.length mc,.slice tn t.length tc,.slice so rows.length sc] w λ e w' => e=.returned (.int .i64 (-1))∧Za w w' := by
 refine (Zgf h (h.dn.small h.nk hne) mc sc).mono ?_;rintro e w' ⟨z,rfl,hz,hk⟩
 rcases hz.out with ⟨rfl,_⟩ | ⟨p,_,_,_,hq⟩
 ·exact ⟨rfl,hk⟩
 ·rw [hp] at hq;cases hq
theorem Zgt {rows:List Rw} (h:0<rows.length):rows.headD (0,[],[])=rows[0]:=by
 cases rows with
 | nil=>simp at h
 | cons x r=>rfl
theorem Zrw {rows:List Rw} (h:NdD w L R (n+1) rv mo tn so tc t rows) (h1:rows.length=1) (hp:Y6 rows (vpS L [] t).length=none) (mc sc:Nat) :
  Calls prog 98 #[rv,.slice mo R.length mc,.slice tn t.length tc,.slice so rows.length sc] w (@Ke (n+1) w (.ok (1,(rows.headD (0,[],[])).1,[],[]))):=by
 have hne:rows≠[]:=λ e=>by rw [e] at h1;simp at h1
 have ka:Za w (w.alloc Zy):=(Zc.refl _ w).alloc _;have CP:=Zgb (h.same ka) hne hp mc sc;obtain ⟨ro,rc,rfl⟩:=Zf h.rl.1;have hl0:0<rows.length:=by omega
 have hl0' : 0<(rows.map (·.1)).length:=by simpa using hl0
 obtain ⟨sb,soff,rfl,hsb,hsc⟩:=h.si.get hl0'
 have HS:Hid (∀ ww,Za (w.alloc Zy) ww->ww.cell? ⟨sb,soff,none⟩=some (.int .i64 (rows.headD (0,[],[])).1)):=λ ww hk=>by
  have:=((ka.trans' hk).cell (p:=⟨sb,soff+0,none⟩) hsb (λ f=>f)).trans hsc;rw [Zgt hl0]
  simpa using this
 have i1:(0:Int)<(rows.length:Int):=by omega
 have e0:((rows.length:Int) == 0)=false:=by rw [h1];rfl
 have e1:((rows.length:Int) == 1)=true:=by rw [h1];rfl
 obtain ⟨W1,hW1⟩:∃ W1,W1=w.alloc Zy:=⟨_,rfl⟩;have HW:Hid (W1=w.alloc Zy):=hW1;rw [<- hW1] at CP HS;clear h hp hsc hl0' hl0 hne ka;generalize rows.length=N at *;generalize (rows.headD (0,[],[])).1=z at *
 go_enter func98,ntmps98
 go_upto_region 3 with fail
 rw [<- hW1];clear hW1 h1
 go_upto_region 5 with ((go_at_call 140;refine CP.mono ?_;rintro e w2 ⟨rfl,k2⟩))
 have k2' : Za (w.alloc Zy) w2:=by rw [<- HW.out];exact k2
 obtain ⟨⟨r0,r1,r2,r3⟩,f0,f1,f2,f3⟩:=Kk w2 k2';have d0:=HS.out w2 k2;obtain ⟨⟨g0,g1,g2,g3⟩,kk,ks⟩:=Za4 (w:=w) (x0:=.int .i64 1) (x1:=.int .i64 z) (x2:=.slice none 0 0) (x3:=.slice none 0 0) w2 k2';have GG:Hid (_∧_∧_∧_):=⟨g0,g1,g2,g3⟩;have KS:Hid (Za _ _):=ks;clear g0 g1 g2 g3 kk ks CP;go_wp2;obtain ⟨g0,g1,g2,g3⟩:=GG.out;exact bodyPost_ret (v:=.tuple #[.agg #[.int .i64 1,.int .i64 z,.slice none 0 0,.slice none 0 0],.int .i64 (-1)]) (by simp [results,results98,go_sem,g0,g1,g2,g3]) rfl ⟨_,rfl,Zhv _ _ _ _ _,KS.out⟩
theorem Zry {rows:List Rw} (h:NdD w L R (n+1) rv mo tn so tc t rows) (h0:¬ rows.length=0) (h1:¬ rows.length=1) (hp:Y6 rows (vpS L [] t).length=none) (mc sc:Nat) :
  Calls prog 98 #[rv,.slice mo R.length mc,.slice tn t.length tc,.slice so rows.length sc] w (@Ke (n+1) w (.error (rows.headD (0,[],[])).1)):=by
 have hne:rows≠[]:=λ e=>by rw [e] at h0;simp at h0
 have ka:Za w (w.alloc Zy):=(Zc.refl _ w).alloc _;have CP:=Zgb (h.same ka) hne hp mc sc;obtain ⟨ro,rc,rfl⟩:=Zf h.rl.1;have hl0:0<rows.length:=by omega
 have hl0' : 0<(rows.map (·.1)).length:=by simpa using hl0
 obtain ⟨sb,soff,rfl,hsb,hsc⟩:=h.si.get hl0'
 have HS:Hid (∀ ww,Za (w.alloc Zy) ww->ww.cell? ⟨sb,soff,none⟩=some (.int .i64 (rows.headD (0,[],[])).1)):=λ ww hk=>by
  have:=((ka.trans' hk).cell (p:=⟨sb,soff+0,none⟩) hsb (λ f=>f)).trans hsc;rw [Zgt hl0]
  simpa using this
 have HZ:Hid (0<=(rows.headD (0,[],[])).1):=by
  obtain ⟨j,_,ej,_⟩:=h.dn.row _ (List.getElem_mem hl0);show 0<=_;rw [Zgt hl0,ej];omega
 have i1:(0:Int)<(rows.length:Int):=by omega
 have e0:((rows.length:Int) == 0)=false:=by simp;omega
 have e1:((rows.length:Int) == 1)=false:=by simp;omega
 obtain ⟨W1,hW1⟩:∃ W1,W1=w.alloc Zy:=⟨_,rfl⟩;have HW:Hid (W1=w.alloc Zy):=hW1;rw [<- hW1] at CP HS;clear h hp hsc hl0' hl0 hne ka h0 h1;generalize rows.length=N at *;generalize (rows.headD (0,[],[])).1=z at *
 go_enter func98,ntmps98
 go_upto_region 3 with fail
 rw [<- hW1];clear hW1
 go_upto_region 7 with ((go_at_call 140;refine CP.mono ?_;rintro e w2 ⟨rfl,k2⟩))
 have kd:Za W1 w2.drew:=k2.trans' ((Zc.refl _ _).drew);have k2' : Za (w.alloc Zy) w2.drew:=by rw [<- HW.out];exact kd
 obtain ⟨⟨r0,r1,r2,r3⟩,f0,f1,f2,f3⟩:=Kk w2.drew k2';have d0:=HS.out w2.drew kd;have ks:=(Za4 (w:=w) (x0:=.int .i64 0) (x1:=.int .i64 0) (x2:=.slice none 0 0) (x3:=.slice none 0 0) w2.drew k2').2.2;have KS:Hid (Za w _):=ks;clear ks CP;have i2:0<N:=by omega
 have k3' : Za (w.alloc Zy) w2:=by rw [<- HW.out];exact k2
 obtain ⟨⟨s0,s1,s2,s3⟩,t0,t1,t2,t3⟩:=Kk w2 k3';have d1:=HS.out w2 k2;have rs:w2.heap[w.heap.size]? = some (.cells #[.int .i64 0,.int .i64 0,.slice none 0 0,.slice none 0 0] 63 (0,0)):=k3'.at0 (heap_alloc_new w _);have q0:=Zt rs 0 (.int .i64 0);have q1:=Zt q0 1 (.int .i64 0);have q2:=Zt q1 2 (.slice none 0 0);have q3:=Zt q2 3 (.slice none 0 0);have GG:Hid (_∧_∧_∧_):=⟨Zb q0 0,Zb q1 1,Zb q2 2,Zb q3 3⟩;clear rs q0 q1 q2 q3
 go_region
 go_wp2;obtain ⟨g0,g1,g2,g3⟩:=GG.out;exact bodyPost_ret (v:=.tuple #[K9,.int .i64 z]) (by simp [results,results98,go_sem,g0,g1,g2,g3]) rfl ⟨rfl,HZ.out,KS.out⟩
theorem Zly {rows:List Rw}:(rows.map (·.1)).length=rows.length:=List.length_map _
theorem Zm4 (L:List Sym) (c:Nat) (rows:List Rw):(rows.map (Je L c)).map (·.1)=rows.map (·.1):=by
 rw [List.map_map];rfl
theorem Ztc {R:List Rw} {k:Nat} (h:¬ 0<(Yj R c (k:Int)).length) {l:List (Int × Tr n)} (hK:Xy L n P R c k=.ok l):Xy L n P R c (k+1)=.ok l:=by
 unfold Xy at hK ⊢;rw [Zcz,hK];simp only [h,decide_false,Bool.false_eq_true,if_false]
theorem Zqo {R:List Rw} {k:Nat} (h:0<(Yj R c (k:Int)).length) {l:List (Int × Tr n)} (hK:Xy L n P R c k=.ok l):Xy L n P R c (k+1)=(match Y5 L n (Y4 L P c k) ((Yj R c (k:Int)).map (Je L c)) with | .error e=>.error e | .ok t=>.ok (l ++ [((k:Int),t)])):=by
 unfold Xy at hK ⊢;rw [Zcz,hK];simp only [h,decide_true,if_true];cases Y5 L n (Y4 L P c k) ((Yj R c (k:Int)).map (Je L c)) <;> rfl
theorem Zwj {w2:World} {kb:Nat} {lo:Option Addr} {lc:Nat} {l:List (Int × Tr n)} {us:List Value} {k:Nat} {t:Tr n} (hN:wr.heap[kb]? = some (.cells #[.int .i64 2,.int .i64 0,x2,.slice lo l.length lc] 63 (0,0))) (hr:wr.ownsRow (kb+1) 161 5 (.slice lo l.length lc) l.length us) (hus:Y2 (λ b=>kb<b∧(Value.slice lo l.length lc).ownBlock≠some b) wr n us l) (hw:Za w2 wr) (hz2:w2.heap.size<=kb)
  {w4 w5:World} {c0 c1 c2 c3:Value} {w11:World} (k4:Za wr w4) (k5:Za w4 w5) (hcs:CsB (λ b=>w4.heap.size<=b) w5 n (.agg #[c0,c1,c2,c3]) t) (r11:w11.ownsRow (kb+1) 161 5 (.slice (some ⟨g,0,none⟩) (l.length+1) cap) (l.length+1) (us ++ [.int .i64 (k:Int),c0,c1,c2,c3])) (k11:Zc (λ q=>(Value.slice lo l.length lc).ownBlock=some q) w5 w11) (hat:(Value.slice lo l.length lc).ownBlock=some g∨w5.heap.size<=g) :
  (w11.cell? ⟨kb,3,none⟩=some (.slice lo l.length lc)∧w11.frozen? ⟨kb,3,none⟩=false)∧((w11.setCell ⟨kb,3,none⟩ (.slice (some ⟨g,0,none⟩) (l.length+1) cap)).heap[kb]? = some (.cells #[.int .i64 2,.int .i64 0,x2,.slice (some ⟨g,0,none⟩) (l.length+1) cap] 63 (0,0)))∧((w11.setCell ⟨kb,3,none⟩ (.slice (some ⟨g,0,none⟩) (l.length+1) cap)).ownsRow (kb+1) 161 5 (.slice (some ⟨g,0,none⟩) (l.length+1) cap) (l ++ [((k:Int),t)]).length (us ++ [.int .i64 (k:Int),c0,c1,c2,c3]))∧(Y2 (λ b=>kb<b∧(Value.slice (some ⟨g,0,none⟩) (l.length+1) cap).ownBlock≠some b) (w11.setCell ⟨kb,3,none⟩ (.slice (some ⟨g,0,none⟩) (l.length+1) cap)) n (us ++ [.int .i64 (k:Int),c0,c1,c2,c3]) (l ++ [((k:Int),t)]))∧Za w2 (w11.setCell ⟨kb,3,none⟩ (.slice (some ⟨g,0,none⟩) (l.length+1) cap)):=by
 have hkr:kb<wr.heap.size:=Zi hN;have kr5:Za wr w5:=k4.trans' k5;have hr5:=kr5.row hr (λ _ _ f=>f);have n5:=kr5.at0 hN
 have nk:¬ (Value.slice lo l.length lc).ownBlock=some kb:=λ e=>by
  obtain ⟨cu,h5⟩:=Yb hr5 e;rw [n5] at h5;cases h5
 have n11:=k11.at n5 nk;have ks:Zc (λ q=>q=kb) w11 (w11.setCell ⟨kb,3,none⟩ (.slice (some ⟨g,0,none⟩) (l.length+1) cap)):=Zc.setCell (p:=⟨kb,3,none⟩) (Zc.refl (λ q=>q=kb) w11) (λ _=>rfl) _;have z4:=k4.size;have z5:=k5.size
 have hK1:Y2 (λ b=>kb<b∧(Value.slice lo l.length lc).ownBlock≠some b∧b<w5.heap.size) w5 n us l:=by
  have:=hus.mono (B' := λ b=>kb<b∧(Value.slice lo l.length lc).ownBlock≠some b∧b<w5.heap.size) (λ b hb q=>⟨q.1,q.2,by omega⟩);exact this.kept kr5 (λ _ _ f=>f)
 have hC1:CsB (λ b=>kb<b∧(Value.slice lo l.length lc).ownBlock≠some b∧b<w5.heap.size) w5 n (.agg #[c0,c1,c2,c3]) t:=CsB.mono (λ b hb q=>by have q' : w4.heap.size<=b:=q;exact ⟨by omega,λ e=>by have:=(hr.lt b e).2;omega,hb⟩) hcs;refine ⟨⟨Zb n11 3,Zg n11 3⟩,Zt n11 3 _,?_,?_,?_⟩
 ·rw [List.length_append]
  exact ks.row r11 (λ q e f=>by
   obtain ⟨cu,h5⟩:=Yb r11 e;subst f
   rw [n11] at h5;cases h5)
 ·have a1:=(hK1.snoc (s:=(k:Int)) hC1).kept k11 (λ b q e=>q.2.1 e)
  have a2:=a1.kept ks (λ b q e=>by have:=q.1;have e' : b=kb:=e;omega)
  exact a2.mono (λ b hb q=>⟨q.1,λ e=>by
   simp only [Value.ownBlock,Option.some.injEq] at e;subst e
   rcases hat with e | e
   ·exact q.2.1 e
   ·have:=q.2.2;omega⟩)
 ·refine Zc.trans (Zc.trans (hw.trans' kr5) k11 (λ i hi e=>?_)) ks (λ i hi e=>by have e' : i=kb:=e;omega)
  have:=(hr5.lt i e).1;omega
theorem Zlx (IH:Zxe L R n) {rows:List Rw} (h:NdD w L R (n+1) rv mo tn so tc t rows) (h0:¬ rows.length=0) (hpart:Y6 rows (vpS L [] t).length=some c) (mc sc:Nat) :
  Calls prog 98 #[rv,.slice mo R.length mc,.slice tn t.length tc,.slice so rows.length sc] w (Ke w (BrF L n (vpS L [] t) rows c)):=by
 have hne:rows≠[]:=λ e=>by rw [e] at h0;simp at h0
 have hm:t.length<=2000:=h.dn.small h.nk hne;have hL64:=h.rl.2.2.2;have hArs:=h.rl.2.2.1;have hle:=h.nk.le;have hRle:=h.le;have hcP:=(Zcd hpart).1;have ka:Za w (w.alloc Zy):=(Zc.refl _ w).alloc _;obtain ⟨ro,rcap,hrv⟩:=Zf h.rl.1
 have CP:Calls prog 140 #[rv,.slice mo R.length mc,.slice tn t.length tc,.slice so rows.length sc] (w.alloc Zy) λ e w' => ∃ p:Nat,e=.returned (.int .i64 (p:Int))∧Hid (∃ hp:p<t.length,t[p]<0∧Vz L t p=c)∧Za (w.alloc Zy) w' := by
  refine (Zgf (h.same ka) hm mc sc).mono ?_;rintro e w' ⟨z,rfl,hz,hk⟩
  rcases hz.out with ⟨_,hq⟩ | ⟨p,rfl,hp,hv,hq⟩
  ·rw [hpart] at hq;cases hq
  ·rw [hpart] at hq
   cases hq
   exact ⟨p,rfl,⟨hp,hv,rfl⟩,hk⟩
 have HH:Hid (∀ ww,Za (w.alloc Zy) ww->NdD ww L R (n+1) rv mo tn so tc t rows):=λ ww hk=>h.same (ka.trans' hk)
 have PA:Hid (∀ ww (p:Nat) (hp:p<t.length),t[p]<0->Vz L t p=c->Za (w.alloc Zy) ww->Calls prog 141 #[rv,.slice tn t.length tc,.int .i64 (p:Int)] ww λ e w' => ∃ po pc,e=.returned (.slice po ((vpS L [] t).getD c []).length pc)∧Hid (Arg w' po ((vpS L [] t).getD c []) pc∧∀ a,po=some a->ww.heap.size<=a.block)∧Za ww w'):=λ ww p hp hv hc hk=>by
  have hg:(vpS L [] t).getD c []=Yf (way L t p):=by rw [<- hc,List.getD,Zls hp hv];rfl
  have hl:(Yf (way L t p)).length<=2000:=by rw [Zbe];have:=Zf6 L t p (by omega);omega
  rw [hg];refine (Zj5 (cap:=tc) (HH.out ww hk).rl (HH.out ww hk).ti hm h.dn.isT p hp).mono ?_;rintro e w' ⟨v,rfl,r,k⟩;obtain ⟨ao,ac,rfl,a1,a2⟩:=r.arg (by omega);exact ⟨ao,ac,rfl,⟨a1.1,a2⟩,k⟩
 have HA:Hid (∀ ww,Za (w.alloc Zy) ww->∀ (m:Nat) (hm:m<rows.length),∃ sb soff mb moff,so=some ⟨sb,soff,none⟩∧mo=some ⟨mb,moff,none⟩∧∃ j:Nat,j<R.length∧rows[m].1=(j:Int)∧(∀ w6,Za ww w6->w6.cell? ⟨sb,soff+m,none⟩=some (.int .i64 (j:Int)))∧∃ ao al ac,ww.cell? ⟨mb,moff+j * 2,none⟩=some (.slice ao al ac)∧∀ po pc,Zh ww po ((vpS L [] t).getD c [])->Calls prog 142 #[rv,.slice ao al ac,.slice po ((vpS L [] t).getD c []).length pc] ww λ e w' => e=.returned (.int .i64 (Vr rows[m] c))∧Za ww w'):=λ ww hk2 m hm2=>by
  obtain ⟨sb,soff,mb,moff,e1,e2,j,hj,e3,HF⟩:=(HH.out ww hk2).at' hm2 hcP;obtain ⟨f1,ao,al,ac,f2,CA⟩:=HF ww (Zc.refl _ _);rw [Xi hcP];exact ⟨sb,soff,mb,moff,e1,e2,j,hj,e3,λ w6 hk6=>(HF w6 hk6).1,ao,al,ac,f2,CA⟩
 have FR:Hid (∀ ww (k:Nat),k<L.length->Za (w.alloc Zy) ww->Calls prog 99 #[rv,.int .i64 (k:Int)] ww λ e w' => ∃ fo fc,e=.returned (.slice fo (Zv L k).length fc)∧Hid (Zh w' fo (Zv L k))∧Za ww w'):=λ ww k hk hs=>(Zf2 (HH.out ww hs).rl hk).mono (λ e w' ⟨v,e1,r,k9⟩=>by
  obtain ⟨ao,cap,rfl,ia,_,_⟩:=r.ints
  exact ⟨ao,cap,e1,ia,k9⟩)
 have PU:Hid (∀ ww fo fc (k p:Nat),p<t.length->Za (w.alloc Zy) ww->Zh ww fo (Zv L k)->Calls prog 143 #[rv,.slice tn t.length tc,.int .i64 (p:Int),.slice fo (Zv L k).length fc] ww λ e w' => ∃ qo qc,e=.returned (.slice qo (Kx L t p (Zv L k)).length qc)∧Hid (Zh w' qo (Kx L t p (Zv L k))∧(Kx L t p (Zv L k)).length<=qc)∧Za ww w'):=λ ww fo fc k p hp hs hf=>by
  have h6:=Vm hArs (k:Int);have hfl:=Zdj L k;refine (Zwg (cap:=tc) (ucap:=fc) (HH.out ww hs).rl (HH.out ww hs).ti hm h.cap h.dn.isT p hp hf (by omega) (by omega)).mono ?_;rintro e w' ⟨v,rfl,r,k9⟩;obtain ⟨ao,cap,rfl,ia,ic,_⟩:=r.ints;exact ⟨ao,cap,rfl,⟨ia,ic⟩,k9⟩
 have NO:Hid (∀ ww qo qc wo wc (k p:Nat) (hp:p<t.length),t[p]<0->Vz L t p=c->k<L.length->0<(Yj rows c (k:Int)).length->Za (w.alloc Zy) ww->Zh ww qo (Kx L t p (Zv L k))->(Kx L t p (Zv L k)).length<=qc->Zh ww wo ((Yj rows c (k:Int)).map (·.1))->Calls prog 98 #[rv,.slice mo R.length mc,.slice qo (Kx L t p (Zv L k)).length qc,.slice wo (Yj rows c (k:Int)).length wc] ww (Ke ww (Y5 L n (Y4 L (vpS L [] t) c k) ((Yj rows c (k:Int)).map (Je L c))))):=λ ww qo qc wo wc k p hp hv hc hk hh hs hq hqc hw=>by
  have hd:=h.dn.kid h.nk hp hv k;have hn:=h.nk.kid (s:=k) hcP hk (Vm hArs _) (λ e=>by rw [e] at hh;simp at hh);rw [hc] at hd;have e1:=Zr7 (L:=L) hp hv k;rw [hc] at e1;rw [<- e1] at hn ⊢;have:=IH ww rv mo qo wo qc (Kx L t p (Zv L k)) ((Yj rows c (k:Int)).map (Je L c)) ⟨(HH.out ww hs).rl,(HH.out ww hs).rs,h.le,hq,hqc,by rw [Zm4];exact hw,hd,hn⟩ mc wc;rw [List.length_map] at this;exact this
 obtain ⟨P,hPe⟩:∃ P,P=vpS L [] t:=⟨_,rfl⟩;rw [<- hPe] at PA HA NO ⊢;have b0:((rows.length:Int) == 0)=false:=by simp;omega
 obtain ⟨W1,hW1⟩:∃ W1,W1=w.alloc Zy:=⟨_,rfl⟩;have HW:Hid (W1=w.alloc Zy):=hW1;have KW:Za w W1:=by rw [hW1];exact ka
 have ezW:W1.heap.size=w.heap.size+1:=by rw [hW1];simp
 have EZW:Hid (W1.heap.size=w.heap.size+1):=ezW;rw [<- hW1] at CP HH PA HA FR PU NO;subst hrv;clear h h0 hpart hne ka hPe IH hcP hm hArs ezW;obtain ⟨Q,hQ⟩:∃ Q,Q=P.getD c []:=⟨_,rfl⟩;have HQE:Hid (Q=P.getD c []):=hQ;rw [<- hQ] at PA HA;clear hQ HH
 go_enter func98,ntmps98
 go_upto_region 3 with fail
 rw [<- hW1];clear hW1
 go_upto_region 8 with ((go_at_call 140;refine CP.mono ?_;rintro e w1 ⟨p,rfl,hpp,k1⟩))
 obtain ⟨hp,hv,hcol⟩:=hpp.out;have PA1:=PA.out w1 p hp hv hcol k1;have HP3:Hid (∃ hp:p<t.length,t[p]<0∧Vz L t p=c):=hpp;clear CP hpp PA hp hv hcol
 go_upto_region 9 with ((go_at_call 141;refine PA1.mono ?_;rintro e w2 ⟨qo,qc,rfl,hq2,k2⟩))
 have K2:Za W1 w2:=k1.trans' k2;have hz12:=k1.size;have HQ:Hid (∀ ww,Za w2 ww->Arg ww qo Q qc):=λ ww hk=>hq2.out.1.same hk;have HQB:Hid (∀ a,qo=some a->W1.heap.size<=a.block):=λ a e=>Nat.le_trans hz12 (hq2.out.2 a e);obtain ⟨kb,hkb⟩:∃ kb,kb=w2.heap.size:=⟨_,rfl⟩;have HKB:Hid (kb=w2.heap.size):=hkb;have hN0:Hid ((w2.alloc (.cells #[.int .i64 2,.int .i64 0,.slice qo Q.length qc,.slice none 0 0] 63)).heap[kb]? = some (.cells #[.int .i64 2,.int .i64 0,.slice qo Q.length qc,.slice none 0 0] 63 (0,0))):=by rw [hkb];exact heap_alloc_new w2 _
 have K3:Za w2 (w2.alloc (.cells #[.int .i64 2,.int .i64 0,.slice qo Q.length qc,.slice none 0 0] 63)):=Zal9;have hkW:W1.heap.size<=kb:=by rw [hkb];exact K2.size
 clear PA1 hq2 k1 k2 hz12
 go_upto_region 11 with fail
 rw [<- hkb];clear hkb
 go_loopw [13] (λ i wr=>∃ (k:Nat) (lv:Value) (us:List Value) (l:List (Int × Tr n)),k<=L.length∧i=.int .i64 (k:Int)∧Hid (Xy L n P rows c k=.ok l)∧Hid (wr.heap[kb]? = some (.cells #[.int .i64 2,.int .i64 0,.slice qo Q.length qc,lv] 63 (0,0)))∧Hid (wr.ownsRow (kb+1) 161 5 lv l.length us)∧Hid (Y2 (λ b=>kb<b∧lv.ownBlock≠some b) wr n us l)∧Za w2 wr) (λ i _=>L.length-(intOf i).toNat)
 case atStart=>exact ⟨0,.slice none 0 0,[],[],Nat.zero_le _,rfl,rfl,hN0,World.ownsRow_nil _ _ _ _,Y2.nil _ _ _,K3⟩
 case round=>
  clear hN0 K3;obtain ⟨k,lv,us,l,hk,rfl,hK,hN,hr,hus,hw⟩:=hrel;obtain ⟨lo,lc,rfl⟩:=Zf hr.out;have hw1:Za W1 wr:=K2.trans' hw;have hll:=Zeq hK.out
  by_cases hlt:k<L.length
  ·have i1:(0:Int)<=(k:Int):=by omega
   have i2:(k:Int)<(L.length:Int):=by omega
   have R0:Hid (Row wr.heap.size wr (.slice none 0 0) ((Yj (rows.take 0) c (k:Int)).map (·.1))):=World.ownsRow_nil _ _ _ _;have EZ2:Hid (w2.heap.size<=kb):=by show _<=_;rw [HKB.out];exact Nat.le_refl _
   have HN' : Hid (∀ w4,Za wr w4->w4.cell? ⟨kb,3,none⟩=some (.slice lo l.length lc)):=λ w4 hk4=>Zb (hk4.at0 hN.out) 3
   go_upto_region 15 with fail
   obtain ⟨wo,rfl⟩:∃ wo:World,wo=wr:=⟨_,rfl⟩
   go_loopw [14,15] (λ wv kv wr=>∃ m:Nat,m<=rows.length∧kv=.int .i64 (m:Int)∧Hid (Row wo.heap.size wr wv ((Yj (rows.take m) c (k:Int)).map (·.1)))∧Za wo wr) (λ _ kv _=>rows.length-(intOf kv).toNat)
   case atStart=>exact ⟨0,Nat.zero_le _,rfl,R0,Zc.refl _ _⟩
   case round=>
    obtain ⟨m,hml,rfl,hrow,hwi⟩:=hrel;obtain ⟨vo,vc,rfl⟩:=Zf hrow.out;have hwo1:Za W1 wo:=hw1
    by_cases hmlt:m<rows.length
    ·obtain ⟨sb,soff,mb,moff,rfl,rfl,j,hj,ej,f1,ao,al,ac,f2,CA⟩:=HA.out wr (hwo1.trans' hwi) m hmlt
     have HPQ:Zh wr qo Q:=(HQ.out wr (hw.trans' hwi)).at';have C2:=CA qo qc HPQ;have f0:=f1 wr (Zc.refl _ _);have F1:Hid (∀ w6,Za wr w6->w6.cell? ⟨sb,soff+m,none⟩=some (.int .i64 (j:Int))):=f1;have HT:=Ziv (c:=c) (s:=(k:Int)) hmlt;have hl2:=Zhr (rows.take m) c (k:Int);have hl3:(rows.take m).length=m:=by simp;omega
     have hl4:((Yj (rows.take m) c (k:Int)).map (·.1)).length=(Yj (rows.take m) c (k:Int)).length:=List.length_map _;have hl5:((Yj (rows.take m) c (k:Int)).map (·.1)).length<=100:=by omega
     have hb8:(((Yj (rows.take m) c (k:Int)).map (·.1)).length+1) * 8<=140737488355328:=by omega
     have j1:(0:Int)<=(m:Int):=by omega
     have j2:(m:Int)<(rows.length:Int):=by omega
     have j3:(0:Int)<=(j:Int):=by omega
     have j4:(j:Int)<(R.length:Int):=by omega
     have zA:=hwi.size
     by_cases hq:Vr rows[m] c=(k:Int)
     ·rw [if_pos hq] at HT
      have HT2:Hid ((Yj (rows.take (m+1)) c (k:Int)).map (·.1)=(Yj (rows.take m) c (k:Int)).map (·.1) ++ [(j:Int)]):=by
       show _=_;rw [HT,List.map_append,List.map_cons,List.map_nil,ej]
      have hqe:(Vr rows[m] c == (k:Int))=true:=by simpa using hq
      have HRW:Hid (∀ w6,Za wr w6->Row wo.heap.size w6 (.slice vo ((Yj (rows.take m) c (k:Int)).map (·.1)).length vc) ((Yj (rows.take m) c (k:Int)).map (·.1))∧wo.heap.size<=w6.heap.size):=λ w6 hk6=>⟨hk6.row hrow.out (λ _ _ f=>f),by have:=hk6.size;omega⟩;clear HT hl2 hl3 hl4 hq hrow f1 CA HPQ R0 hN hr hus hK HA;generalize Vr rows[m] c=z at *;generalize (Yj (rows.take m) c (k:Int)).map (·.1)=xs at *
      go_wp2_with (first | (go_at_call 142;refine C2.mono ?_;rintro e w5 ⟨rfl,k5⟩;have f5:=F1.out w5 k5;obtain ⟨hr5,z5⟩:=HRW.out w5 k5) | (at_builtin;refine Yz rfl _ _ 51 rfl underlying51 wo.heap.size xs _ rfl hr5 (j:Int) rfl z5 hb8 ?_;intro g cap w7 hr7 hk7 hat7))
      go_roundw
      case rel=>exact ⟨m+1,by omega,by go_num,by rw [HT2.out];exact hr7,Zc.trans (hwi.trans' k5) hk7 (λ i hi e=>by have:=(hr5.lt i e).1;omega)⟩
      case measure=>simp [intOf];omega
     ·rw [if_neg hq,List.append_nil] at HT
      have HT2:Hid ((Yj (rows.take (m+1)) c (k:Int)).map (·.1)=(Yj (rows.take m) c (k:Int)).map (·.1)):=by show _=_;rw [HT]
      have hqe:(Vr rows[m] c == (k:Int))=false:=by simpa using hq
      have HRW:Hid (∀ w6,Za wr w6->Row wo.heap.size w6 (.slice vo ((Yj (rows.take m) c (k:Int)).map (·.1)).length vc) ((Yj (rows.take m) c (k:Int)).map (·.1))):=λ w6 hk6=>hk6.row hrow.out (λ _ _ f=>f);clear HT hl2 hl3 hl4 hq hrow f1 CA HPQ R0 hN hr hus hK HA;generalize Vr rows[m] c=z at *;generalize (Yj (rows.take m) c (k:Int)).map (·.1)=xs at *
      go_wp2_with ((go_at_call 142;refine C2.mono ?_;rintro e w5 ⟨rfl,k5⟩))
      go_roundw
      case rel=>exact ⟨m+1,by omega,by go_num,by rw [HT2.out];exact HRW.out w5 k5,hwi.trans' k5⟩
      case measure=>simp [intOf];omega
    ·obtain rfl:m=rows.length:=by omega
     have HL:=Zly (rows:=Yj rows c (k:Int));rw [List.take_length,HL] at hrow ⊢;clear HA R0;have hwr:Za wo wr:=hwi;have hw2:Za w2 wr:=hw.trans' hwr
     by_cases hhas:0<(Yj rows c (k:Int)).length
     ·have hb:(((Yj rows c (k:Int)).length:Int) == 0)=false:=by rw [beq_eq_false_iff_ne];omega
      obtain ⟨hp,hv,hcol⟩:=HP3.out;have FR1:=FR.out wr k hlt (hw1.trans' hwr);have HSK:=Zqo hhas hK.out
      have NO1:Hid (∀ ww qo qc,Za wr ww->Zh ww qo (Kx L t p (Zv L k))->(Kx L t p (Zv L k)).length<=qc->Calls prog 98 #[.slice ro L.length rcap,.slice mo R.length mc,.slice qo (Kx L t p (Zv L k)).length qc,.slice vo (Yj rows c (k:Int)).length vc] ww (Ke ww (Y5 L n (Y4 L P c k) ((Yj rows c (k:Int)).map (Je L c))))):=λ ww qo qc hs hq hqc=>NO.out ww qo qc vo vc k p hp hv hcol hlt hhas ((hw1.trans' hwr).trans' hs) hq hqc (by
       have hrw:Row wo.heap.size ww (.slice vo (Yj rows c (k:Int)).length vc) ((Yj rows c (k:Int)).map (·.1)):=hs.row hrow.out (λ _ _ f=>f);obtain ⟨ao,cap,e1,ia,_,_⟩:=hrw.ints;rw [HL] at e1;simp only [Value.slice.injEq] at e1;obtain ⟨rfl,_,rfl⟩:=e1
       exact ia)
      have PU1:Hid (∀ ww fo fc,Za wr ww->Zh ww fo (Zv L k)->Calls prog 143 #[.slice ro L.length rcap,.slice tn t.length tc,.int .i64 (p:Int),.slice fo (Zv L k).length fc] ww λ e w' => ∃ qo qc,e=.returned (.slice qo (Kx L t p (Zv L k)).length qc)∧Hid (Zh w' qo (Kx L t p (Zv L k))∧(Kx L t p (Zv L k)).length<=qc)∧Za ww w'):=λ ww fo fc hs hf=>PU.out ww fo fc k p hp ((hw1.trans' hwr).trans' hs) hf;clear NO PU FR hp hv hcol HP3 hrow HL;generalize Zv L k=fn at *;generalize Kx L t p fn=pn at *;have HWR:Hid (∀ ww,Za wr ww->Za (w.alloc Zy) ww):=λ ww hk=>by rw [<- HW.out];exact (hw1.trans' hwr).trans' hk
      cases hg:Y5 L n (Y4 L P c k) ((Yj rows c (k:Int)).map (Je L c)) with
      | error z=>
       rw [hg] at HSK NO1
       have HE:Hid (BrF L n P rows c=.error z):=by
        show _=_;unfold BrF;rw [Zej HSK (show k+1<=L.length by omega)]
       have NE:Hid (∀ ww qo qc,Za wr ww->Zh ww qo pn->pn.length<=qc->Calls prog 98 #[.slice ro L.length rcap,.slice mo R.length mc,.slice qo pn.length qc,.slice vo (Yj rows c (k:Int)).length vc] ww λ e w' => e=.returned (.tuple #[K9,.int .i64 z])∧Hid (0<=z)∧Za ww w'):=λ ww qo qc h1 h2 h3=>NO1.out ww qo qc h1 h2 h3;clear NO1 HSK hg hN hr hus hK hhas HN' hw2 hll;generalize (Yj rows c (k:Int)).length=N at *
       go_upto_region 21 with (first
        | (go_at_call 99;refine FR1.mono ?_;rintro e w5 ⟨fo,fc,rfl,hf5,k5⟩;have PU2:=PU1.out w5 fo fc k5 hf5.out)
        | (go_at_call 143;refine PU2.mono ?_;rintro e w6 ⟨po2,pc2,rfl,hq6,k6⟩;have NO2:=NE.out w6 po2 pc2 (k5.trans' k6) hq6.out.1 hq6.out.2)
        | (go_at_call 98;refine NO2.mono ?_;rintro e w7 ⟨rfl,hz7,k7⟩))
       have hz8:=hz7.out;obtain ⟨w8,hw8⟩:∃ w8,w8=w7.alloc Zy:=⟨_,rfl⟩;have k8:Za (w.alloc Zy) w8:=by rw [hw8];exact Zc.alloc (HWR.out w7 ((k5.trans' k6).trans' k7)) _
       rw [<- hw8];obtain ⟨⟨r0,r1,r2,r3⟩,f0,f1,f2,f3⟩:=Kk w8 k8;obtain ⟨⟨g0,g1,g2,g3⟩,kk,ks⟩:=Za4 (w:=w) (x0:=.int .i64 0) (x1:=.int .i64 0) (x2:=.slice none 0 0) (x3:=.slice none 0 0) w8 k8;have GG:Hid (_∧_∧_∧_):=⟨g0,g1,g2,g3⟩;have KS:Hid (Za w _):=ks;clear hw8 k8 g0 g1 g2 g3 kk ks FR1 PU2 NO2;go_wp2;obtain ⟨g0,g1,g2,g3⟩:=GG.out;exact bodyPost_ret (v:=.tuple #[K9,.int .i64 z]) (by simp [results,results98,go_sem,g0,g1,g2,g3]) rfl (by rw [HE.out];exact ⟨rfl,hz8,KS.out⟩)
      | ok tt=>
       rw [hg] at HSK NO1;have HS' : Hid (Xy L n P rows c (k+1)=.ok (l ++ [((k:Int),tt)])):=HSK
       have NE:Hid (∀ ww qo qc,Za wr ww->Zh ww qo pn->pn.length<=qc->Calls prog 98 #[.slice ro L.length rcap,.slice mo R.length mc,.slice qo pn.length qc,.slice vo (Yj rows c (k:Int)).length vc] ww λ e w' => ∃ tk tr tpo tpl tpc tko tkl tkc,e=.returned (.tuple #[.agg #[.int .i64 tk,.int .i64 tr,.slice tpo tpl tpc,.slice tko tkl tkc],.int .i64 (-1)])∧Hid (CsB (λ b=>ww.heap.size<=b) w' n (.agg #[.int .i64 tk,.int .i64 tr,.slice tpo tpl tpc,.slice tko tkl tkc]) tt)∧Za ww w'):=λ ww qo qc h1 h2 h3=>by
        refine (NO1.out ww qo qc h1 h2 h3).mono ?_;rintro e w' ⟨v,rfl,g1,g2⟩;obtain ⟨tk,tr,tpo,tpl,tpc,tko,tkl,tkc,rfl⟩:=g1.shape;exact ⟨tk,tr,tpo,tpl,tpc,tko,tkl,tkc,rfl,g1,g2⟩
       have FIN:Hid (∀ w4 w5 c0 c1 c2 c3 g cap w11,Za wr w4->Za w4 w5->CsB (λ b=>w4.heap.size<=b) w5 n (.agg #[c0,c1,c2,c3]) tt->w11.ownsRow (kb+1) 161 5 (.slice (some ⟨g,0,none⟩) (l.length+1) cap) (l.length+1) (us ++ [.int .i64 (k:Int),c0,c1,c2,c3])->Zc (λ q=>(Value.slice lo l.length lc).ownBlock=some q) w5 w11->((Value.slice lo l.length lc).ownBlock=some g∨w5.heap.size<=g)->(w11.cell? ⟨kb,3,none⟩=some (.slice lo l.length lc)∧w11.frozen? ⟨kb,3,none⟩=false)∧Hid (∃ us' l', Hid (Xy L n P rows c (k+1)=.ok l')∧Hid ((w11.setCell ⟨kb,3,none⟩ (.slice (some ⟨g,0,none⟩) (l.length+1) cap)).heap[kb]? = some (.cells #[.int .i64 2,.int .i64 0,.slice qo Q.length qc,.slice (some ⟨g,0,none⟩) (l.length+1) cap] 63 (0,0)))∧Hid ((w11.setCell ⟨kb,3,none⟩ (.slice (some ⟨g,0,none⟩) (l.length+1) cap)).ownsRow (kb+1) 161 5 (.slice (some ⟨g,0,none⟩) (l.length+1) cap) l'.length us')∧Hid (Y2 (λ b=>kb<b∧(Value.slice (some ⟨g,0,none⟩) (l.length+1) cap).ownBlock≠some b) (w11.setCell ⟨kb,3,none⟩ (.slice (some ⟨g,0,none⟩) (l.length+1) cap)) n us' l')∧Za w2 (w11.setCell ⟨kb,3,none⟩ (.slice (some ⟨g,0,none⟩) (l.length+1) cap)))):=by
        intro w4 w5 c0 c1 c2 c3 g cap w11 k4 k5 hcs r11 k11 hat;obtain ⟨q1,q2,q3,q4,q5⟩:=Zwj hN.out hr.out hus.out hw EZ2.out (hwr.trans' k4) k5 hcs r11 k11 hat;exact ⟨q1,_,_,HS'.out,q2,q3,q4,q5⟩
       have HRW:Hid (∀ ww,Za wr ww->ww.ownsRow (kb+1) 161 5 (.slice lo l.length lc) l.length us∧kb+1<=ww.heap.size∧ww.cell? ⟨kb,3,none⟩=some (.slice lo l.length lc)):=λ ww hk=>by
        have h9:=hwr.trans' hk;have:=h9.size;have h10:=Zi hN.out;exact ⟨h9.row hr.out (λ _ _ f=>f),by omega,HN'.out ww h9⟩
       have hl1000:l.length<=1000:=by omega
       clear NO1 HSK hg hN hr hus hK hhas HN' hll HS';generalize (Yj rows c (k:Int)).length=N at *
       go_upto_region 21 with (first
        | (go_at_call 99;refine FR1.mono ?_;rintro e w5 ⟨fo,fc,rfl,hf5,k5⟩;have PU2:=PU1.out w5 fo fc k5 hf5.out)
        | (go_at_call 143;refine PU2.mono ?_;rintro e w6 ⟨po2,pc2,rfl,hq6,k6⟩;have NO2:=NE.out w6 po2 pc2 (k5.trans' k6) hq6.out.1 hq6.out.2)
        | (go_at_call 98;refine NO2.mono ?_;rintro e w7 ⟨tk,tr,tpo,tpl,tpc,tko,tkl,tkc,rfl,hcs,k7⟩))
       obtain ⟨w8,hw8⟩:∃ w8,w8=w7.alloc (.cells #[.int .i64 tk,.int .i64 tr,.slice tpo tpl tpc,.slice tko tkl tkc] 63):=⟨_,rfl⟩;have k78:Za w7 w8:=by rw [hw8];exact Zal9
       have k8:Za wr w8:=((k5.trans' k6).trans' k7).trans' k78;have b8:w8.heap[w7.heap.size]? = some (.cells #[.int .i64 tk,.int .i64 tr,.slice tpo tpl tpc,.slice tko tkl tkc] 63 (0,0)):=by rw [hw8];exact heap_alloc_new _ _
       rw [<- hw8];have c0:=Zb b8 0;have c1:=Zb b8 1;have c2:=Zb b8 2;have c3:=Zb b8 3;simp only [List.getElem?_toArray,List.getElem?_cons_zero,List.getElem?_cons_succ] at c0 c1 c2 c3;obtain ⟨hr8,hz8,hn8⟩:=HRW.out w8 k8;have HR8:Hid (w8.ownsRow (kb+1) 161 5 (.slice lo l.length lc) l.length us):=hr8;have HC8:Hid (CsB (λ b=>w6.heap.size<=b) w8 n (.agg #[.int .i64 tk,.int .i64 tr,.slice tpo tpl tpc,.slice tko tkl tkc]) tt):=hcs.out.same k78;have K46:Hid (Za wr w6):=k5.trans' k6;have K68:Hid (Za w6 w8):=k7.trans' k78;clear hw8 b8 hr8 hcs FR1 PU2 NO2 k78
       go_wp2_with ((at_builtin;refine Zpr (w0:=w8) rfl _ _ rfl (kb+1) l.length us (.slice lo l.length lc) rfl ((Zc.refl _ w8).alloc _) HR8.out (.int .i64 (k:Int)) (.int .i64 tk) (.int .i64 tr) (.slice tpo tpl tpc) (.slice tko tkl tkc) w8.heap.size rfl (heap_alloc_new w8 _) rfl rfl rfl rfl rfl hz8 hl1000 ?_;intro g cap w11 r11 k11 hat;obtain ⟨⟨y1,y2⟩,FF⟩:=FIN.out w6 w8 _ _ _ _ g cap w11 K46.out K68.out HC8.out r11 k11 hat))
       go_roundw
       case rel=>
        obtain ⟨us', l', z1,z2,z3,z4,z5⟩:=FF.out;exact ⟨k+1,_,us', l', by omega,by go_num,z1,z2,z3,z4,z5⟩
       case measure=>simp [intOf];omega
     ·have h0:(Yj rows c (k:Int)).length=0:=by omega
      have HK2:Hid (Xy L n P rows c (k+1)=.ok l):=Ztc hhas hK.out;have hN2:Hid (wr.heap[kb]? = some (.cells #[.int .i64 2,.int .i64 0,.slice qo Q.length qc,.slice lo l.length lc] 63 (0,0))):=hwr.at0 hN.out;have hr2:Hid (wr.ownsRow (kb+1) 161 5 (.slice lo l.length lc) l.length us):=hwr.row hr.out (λ _ _ f=>f);have hu2:Hid (Y2 (λ b=>kb<b∧(Value.slice lo l.length lc).ownBlock≠some b) wr n us l):=hus.out.kept hwr (λ _ _ f=>f);rw [h0];clear hN hr hus hK hhas hrow HL h0
      go_wp2_with fail
      go_roundw
      case rel=>exact ⟨k+1,_,us,l,by omega,by go_num,HK2,hN2,hr2,hu2,hw2⟩
      case measure=>simp [intOf];omega
  ·obtain rfl:k=L.length:=by omega
   have hwW:Za (w.alloc Zy) wr:=by rw [<- HW.out];exact hw1
   obtain ⟨⟨r0,r1,r2,r3⟩,f0,f1,f2,f3⟩:=Kk wr hwW;obtain ⟨⟨g0,g1,g2,g3⟩,kk,ks⟩:=Za4 (w:=w) (x0:=.int .i64 2) (x1:=.int .i64 0) (x2:=.slice qo Q.length qc) (x3:=.slice lo l.length lc) wr hwW;have GG:Hid (_∧_∧_∧_):=⟨g0,g1,g2,g3⟩;have n0:=Zb hN.out 0;have n1:=Zb hN.out 1;have n2:=Zb hN.out 2;have n3:=Zb hN.out 3;simp only [List.getElem?_toArray,List.getElem?_cons_zero,List.getElem?_cons_succ] at n0 n1 n2 n3
   have FIN:Hid (Ke w (BrF L n P rows c) (.returned (.tuple #[.agg #[.int .i64 2,.int .i64 0,.slice qo Q.length qc,.slice lo l.length lc],.int .i64 (-1)])) ((((wr.setCell ⟨w.heap.size,0,none⟩ (.int .i64 2)).setCell ⟨w.heap.size,1,none⟩ (.int .i64 0)).setCell ⟨w.heap.size,2,none⟩ (.slice qo Q.length qc)).setCell ⟨w.heap.size,3,none⟩ (.slice lo l.length lc))):=by
    have hB:BrF L n P rows c=.ok (2,0,Q,l):=by
     have:=hK.out;unfold BrF;rw [this,HQE.out]
    rw [hB];have hz1:=EZW.out;have hcs:=Zj6 (B:=λ b=>W1.heap.size<=b) hr.out (hus.out.mono (λ b hb q=>by have:=q.1;omega)) (λ b e=>by have:=(hr.out.lt b e).1;omega) (HQ.out wr hw) HQB.out 2 0;exact ⟨_,rfl,CsB.mono (λ b hb q=>by have q' : W1.heap.size<=b:=q;show w.heap.size<=b;omega) (CsB.kept kk (λ b q e=>by have q' : W1.heap.size<=b:=q;have e' : b=w.heap.size:=e;omega) hcs),ks⟩
   clear hN hr hus hK g0 g1 g2 g3 kk ks HA NO PU FR;go_wp2;obtain ⟨g0,g1,g2,g3⟩:=GG.out;exact bodyPost_ret (v:=.tuple #[.agg #[.int .i64 2,.int .i64 0,.slice qo Q.length qc,.slice lo l.length lc],.int .i64 (-1)]) (by simp [results,results98,go_sem,g0,g1,g2,g3]) rfl FIN.out
theorem Zmi (L:List Sym) (R:List Ru):∀ n,Zxe L R n
 | 0=>λ w rv mo tn so tc t rows h=>absurd h.nk.pos (Nat.lt_irrefl 0)
 | n+1=>λ w rv mo tn so tc t rows h mc sc=>by
  by_cases h0:rows.length=0
  ·rw [Zb2 h0,h0]
   exact Ztz mc sc (Zf h.rl.1)
  ·cases hp:Y6 rows (vpS L [] t).length with
   | some c=>
    rw [Zaa h0 hp];exact Zlx (Zmi L R n) h h0 hp mc sc
   | none=>
    by_cases h1:rows.length=1
    ·rw [Zce h1 hp]
     exact Zrw h h1 hp mc sc
    ·rw [Zcb h0 h1 hp]
     exact Zry h h0 h1 hp mc sc
def FarW (w:World) (v:Value):Prop:=∀ a l c,v=.slice (some a) l c->w.heap.size<=a.block
def Jm (L:List Sym) (R:List Ru) (n:Int) (w:World) (e:Ending) (w' : World):Prop:=
 Za w w' ∧ if Xe L n=true then
  (match J4 L R n.toNat with
  | .ok t=>∃ v,e=.returned (.tuple #[v,.slice none 0 0])∧CsB (λ b=>w.heap.size<=b) w' 2001 v t
  | .error z=>∃ v,e=.returned (.tuple #[K9,v])∧Xh w' v [(81,n),(82,z)]∧FarW w v)
 else ∃ v,e=.returned (.tuple #[K9,v])∧Xh w' v [(80,0)]∧FarW w v
theorem Zzq {f:Int} (h:Xe L f=true):∃ s:Nat,f=(s:Int)∧s<L.length:=by
 unfold Xe at h
 by_cases h0:f<0
 ·simp [h0] at h
 ·rw [if_neg h0] at h
  cases hs:L[f.toNat]? with
  | none=>rw [hs] at h;cases h
  | some x=>exact ⟨f.toNat,by omega,(List.getElem?_eq_some_iff.1 hs).1⟩
theorem Zm8 (L:List Sym) (R:List Ru) (s:Nat):(Yi L R s).map (·.1)=ofF (s:Int) 0 R:=by
 unfold Yi;rw [Zm4];unfold X7;rw [List.map_map];simp [Function.comp_def]
theorem Zx6 (w:World) (a b:Int) (T:TypeId):Xh (w.alloc (.cells #[.int .i64 a,.int .i64 b] T)) (.slice (some ⟨w.heap.size,0,none⟩) 1 1) [(a,b)]:=
 Ze7 w [(a,b)] _ T rfl (λ i hi=>by
  have hi' : i<1:=hi
  match i,hi' with
  | 0,_=>exact ⟨rfl,rfl⟩) 1 rfl
theorem Xh.kept8 {S:Nat->Prop} {lv:Value} {ws:List (Int × Int)} (h:Xh w lv ws) (hk:Zc S w w') (hs:∀ b,(∃ l c,lv=.slice (some ⟨b,0,none⟩) l c)->¬ S b):Xh w' lv ws:=by
 obtain ⟨lo,lc,e,h⟩:=h;refine ⟨lo,lc,e,h.imp id ?_⟩;rintro ⟨b,e2,hb,hc⟩;subst e2;have nb:=hs b ⟨_,_,e⟩;exact ⟨b,rfl,Nat.lt_of_lt_of_le hb hk.size,λ i hi=>⟨(hk.cell (p:=⟨b,i * 2,none⟩) hb nb).trans (hc i hi).1,(hk.cell (p:=⟨b,i * 2+1,none⟩) hb nb).trans (hc i hi).2⟩⟩
theorem Zkr (h:Rl w.heap.size w rv L) (hR:Vh w mo R) (hle:R.length<=100) (hok:∀ x∈R,Zd L x.1=0∧Zd L x.2=0) (mc:Nat) (f:Int) :
  Calls prog 55 #[rv,.slice mo R.length mc,.int .i64 f] w (Jm L R f w):=by
 have ka:Za w (w.alloc Zy):=(Zc.refl _ w).alloc _;obtain ⟨ro,rcap,hrv⟩:=Zf h.1;have CD:=Zhp (h.same ka) f;obtain ⟨W1,hW1⟩:∃ W1,W1=w.alloc Zy:=⟨_,rfl⟩;have HW:Hid (W1=w.alloc Zy):=hW1;have HEZ:Hid (W1.heap.size=w.heap.size+1):=by rw [hW1];simp [Hid]
 cases hd:Xe L f with
 | false=>
  rw [hd] at CD;rw [<- hW1] at CD;have HP:Hid (∀ v w', Za w w' -> Xh w' v [(80,0)]->FarW w v->Jm L R f w (.returned (.tuple #[K9,v])) w'):=λ v w' h1 h2 h3=>⟨h1,by rw [if_neg (by rw [hd];simp)];exact ⟨v,rfl,h2,h3⟩⟩;subst hrv;clear h hR hok hle ka hd;have k2:Za (w.alloc Zy) (W1.alloc (.cells #[.int .i64 80,.int .i64 0] 72)):=by rw [hW1];exact Zal9
  obtain ⟨⟨r0,r1,r2,r3⟩,f0,f1,f2,f3⟩:=Kk _ k2;obtain ⟨⟨g0,g1,g2,g3⟩,kk,ks⟩:=Za4 (w:=w) (x0:=.int .i64 0) (x1:=.int .i64 0) (x2:=.slice none 0 0) (x3:=.slice none 0 0) _ k2
  have HF:=HP.out _ _ ks ((Zx6 W1 80 0 72).kept8 kk (λ b ⟨l,c,e⟩ e2=>by
   simp only [Value.slice.injEq,Option.some.injEq,Addr.mk.injEq] at e;have e' : b=w.heap.size:=e2;have:=HEZ.out
   omega)) (λ a l c e=>by
   simp only [Value.slice.injEq,Option.some.injEq] at e;obtain ⟨rfl,_⟩:=e;have:=HEZ.out;show w.heap.size<=W1.heap.size
   omega)
  have GG:Hid (_∧_∧_∧_):=⟨g0,g1,g2,g3⟩;have HF2:Hid (Jm _ _ _ _ _ _):=HF;clear g0 g1 g2 g3 kk ks HF k2
  go_enter func55,ntmps55
  go_upto_region 1 with fail
  rw [<- hW1];clear hW1
  go_wp2_with ((go_at_call 97;refine CD.mono ?_;rintro e w1 ⟨rfl,rfl⟩))
  obtain ⟨g0,g1,g2,g3⟩:=GG.out;exact bodyPost_ret (v:=.tuple #[K9,.slice (some ⟨w1.heap.size,0,none⟩) 1 1]) (by simp [results,results55,go_sem,g0,g1,g2,g3]) rfl HF2.out
 | true=>
  obtain ⟨s,rfl,hs⟩:=Zzq hd;have hArs:=h.2.2.1
  have CF:Hid (∀ ww,Za w ww->Calls prog 99 #[rv,.int .i64 (s:Int)] ww λ e w' => ∃ fo fc,e=.returned (.slice fo (Zv L s).length fc)∧Hid (Zh w' fo (Zv L s)∧(Zv L s).length<=fc)∧Za ww w'):=λ ww hk=>(Zf2 (h.same hk) hs).mono (λ e w' ⟨v,e1,r,k9⟩=>by
   obtain ⟨ao,cap,rfl,ia,ic,_⟩:=r.ints
   exact ⟨ao,cap,e1,⟨ia,ic⟩,k9⟩)
  have CO:Hid (∀ ww,Za w ww->Calls prog 100 #[.slice mo R.length mc,.int .i64 (s:Int)] ww λ e w' => ∃ oo oc,e=.returned (.slice oo (Yi L R s).length oc)∧Hid (Zh w' oo ((Yi L R s).map (·.1)))∧Za ww w'):=λ ww hk=>(Zzg (mc:=mc) (hR.same hk) hle (λ x hx=>(Yr (hok x hx)).1.1) (s:Int)).mono (λ e w' ⟨v,e1,r,k9⟩=>by
   obtain ⟨ao,cap,rfl,ia,_,_⟩:=r.ints;have hl:(ofF (s:Int) 0 R).length=(Yi L R s).length:=by rw [<- Zm8 L R s,List.length_map]
   exact ⟨ao,cap,by rw [e1,hl],by rw [Zm8];exact ia,k9⟩)
  have CN:Hid (∀ ww fo fc oo oc,Za w ww->Zh ww fo (Zv L s)->(Zv L s).length<=fc->Zh ww oo ((Yi L R s).map (·.1))->Calls prog 98 #[rv,.slice mo R.length mc,.slice fo (Zv L s).length fc,.slice oo (Yi L R s).length oc] ww (Ke ww (J4 L R s))):=λ ww fo fc oo oc hk hf hfc ho=>by
   have hd0:=Zu7 hok s;have hn0:=Ztu hArs hle hok hs;rw [<- Zrl] at hn0;have:=Zmi L R 2001 ww rv mo fo oo fc (Zv L s) (Yi L R s) ⟨Zod (h.same hk) hk.size,hR.same hk,hle,hf,hfc,ho,hd0,hn0⟩ mc oc;rw [Zrl] at this;exact this
  rw [hd,<- hW1] at CD;have KW:Za w W1:=by rw [hW1];exact ka
  subst hrv;clear h hR ka hArs hok;have HD:Hid (Xe L (s:Int)=true):=hd;cases hg:J4 L R s with
  | error z=>
   rw [hg] at CN;have CE:Hid (∀ ww fo fc oo oc,Za w ww->Zh ww fo (Zv L s)->(Zv L s).length<=fc->Zh ww oo ((Yi L R s).map (·.1))->Calls prog 98 #[.slice ro L.length rcap,.slice mo R.length mc,.slice fo (Zv L s).length fc,.slice oo (Yi L R s).length oc] ww λ e w' => e=.returned (.tuple #[K9,.int .i64 z])∧Hid (0<=z)∧Za ww w'):=λ ww fo fc oo oc h1 h2 h3 h4=>CN.out ww fo fc oo oc h1 h2 h3 h4;have HP:Hid (∀ v w', Za w w' -> Xh w' v [(81,(s:Int)),(82,z)]->FarW w v->Jm L R (s:Int) w (.returned (.tuple #[K9,v])) w'):=λ v w' h1 h2 h3=>⟨h1,by rw [if_pos HD.out,Int.toNat_natCast,hg];exact ⟨v,rfl,h2,h3⟩⟩;clear CN hg hd hle;generalize Zv L s=fs at *;generalize Yi L R s=rr at *
   go_enter func55,ntmps55
   go_upto_region 1 with fail
   rw [<- hW1];clear hW1
   go_upto_region 4 with ((go_at_call 97;refine CD.mono ?_;rintro e w1 ⟨rfl,rfl⟩))
   have C1:=CF.out w1 KW
   go_upto_region 5 with (first
    | (go_at_call 99;refine C1.mono ?_;rintro e w2 ⟨fo,fc,rfl,hf2,k2⟩;have C2:=CO.out w2 (KW.trans' k2))
    | (go_at_call 100;refine C2.mono ?_;rintro e w3 ⟨oo,oc,rfl,ho3,k3⟩;have C3:=CE.out w3 fo fc oo oc ((KW.trans' k2).trans' k3) (hf2.out.1.same k3) hf2.out.2 ho3.out)
    | (go_at_call 98;refine C3.mono ?_;rintro e w4 ⟨rfl,hz4,k4⟩))
   have hz5:=hz4.out;obtain ⟨w5,hw5⟩:∃ w5,w5=w4.alloc Zy:=⟨_,rfl⟩;have k5:Za (w.alloc Zy) w5:=by rw [hw5,<- HW.out];exact Zc.alloc ((k2.trans' k3).trans' k4) _
   rw [<- hw5];clear hw5 C1 C2 C3 CE CF CO CD hf2 ho3;have k6:Za (w.alloc Zy) (w5.alloc (.cells #[.int .i64 81,.int .i64 (s:Int),.int .i64 82,.int .i64 z] 72)):=Zc.alloc k5 _;obtain ⟨⟨r0,r1,r2,r3⟩,f0,f1,f2,f3⟩:=Kk _ k6;obtain ⟨⟨g0,g1,g2,g3⟩,kk,ks⟩:=Za4 (w:=w) (x0:=.int .i64 0) (x1:=.int .i64 0) (x2:=.slice none 0 0) (x3:=.slice none 0 0) _ k6;have z5:=k5.size;have z6:w.heap.size<w5.heap.size:=by simp at z5;omega
   have HF:=HP.out _ _ ks ((Zh2 w5 81 (s:Int) 82 z rfl).kept8 kk (λ b ⟨l,c,e⟩ e2=>by
    simp only [Value.slice.injEq,Option.some.injEq,Addr.mk.injEq] at e;have e' : b=w.heap.size:=e2
    omega)) (λ a l c e=>by
    simp only [Value.slice.injEq,Option.some.injEq] at e;obtain ⟨rfl,_⟩:=e;show w.heap.size<=w5.heap.size
    omega)
   have GG:Hid (_∧_∧_∧_):=⟨g0,g1,g2,g3⟩;have HF2:Hid (Jm _ _ _ _ _ _):=HF;clear g0 g1 g2 g3 kk ks HF k5 k6 z5 z6;go_wp2;obtain ⟨g0,g1,g2,g3⟩:=GG.out;exact bodyPost_ret (v:=.tuple #[K9,.slice (some ⟨w5.heap.size,0,none⟩) 2 2]) (by simp [results,results55,go_sem,g0,g1,g2,g3]) rfl HF2.out
  | ok tt=>
   rw [hg] at CN
   have CE:Hid (∀ ww fo fc oo oc,Za w ww->Zh ww fo (Zv L s)->(Zv L s).length<=fc->Zh ww oo ((Yi L R s).map (·.1))->Calls prog 98 #[.slice ro L.length rcap,.slice mo R.length mc,.slice fo (Zv L s).length fc,.slice oo (Yi L R s).length oc] ww λ e w' => ∃ tk tr tpo tpl tpc tko tkl tkc,e=.returned (.tuple #[.agg #[.int .i64 tk,.int .i64 tr,.slice tpo tpl tpc,.slice tko tkl tkc],.int .i64 (-1)])∧Hid (CsB (λ b=>ww.heap.size<=b) w' 2001 (.agg #[.int .i64 tk,.int .i64 tr,.slice tpo tpl tpc,.slice tko tkl tkc]) tt)∧Za ww w'):=λ ww fo fc oo oc h1 h2 h3 h4=>by
    refine (CN.out ww fo fc oo oc h1 h2 h3 h4).mono ?_;rintro e w' ⟨v,rfl,g1,g2⟩;obtain ⟨tk,tr,tpo,tpl,tpc,tko,tkl,tkc,rfl⟩:=g1.shape;exact ⟨tk,tr,tpo,tpl,tpc,tko,tkl,tkc,rfl,g1,g2⟩
   have HP:Hid (∀ v w', Za w w' -> CsB (λ b=>w.heap.size<=b) w' 2001 v tt->Jm L R (s:Int) w (.returned (.tuple #[v,.slice none 0 0])) w'):=λ v w' h1 h2=>⟨h1,by rw [if_pos HD.out,Int.toNat_natCast,hg];exact ⟨v,rfl,h2⟩⟩;clear CN hg hd hle;generalize Zv L s=fs at *;generalize Yi L R s=rr at *
   go_enter func55,ntmps55
   go_upto_region 1 with fail
   rw [<- hW1];clear hW1
   go_upto_region 4 with ((go_at_call 97;refine CD.mono ?_;rintro e w1 ⟨rfl,rfl⟩))
   have C1:=CF.out w1 KW
   go_upto_region 5 with (first
    | (go_at_call 99;refine C1.mono ?_;rintro e w2 ⟨fo,fc,rfl,hf2,k2⟩;have C2:=CO.out w2 (KW.trans' k2))
    | (go_at_call 100;refine C2.mono ?_;rintro e w3 ⟨oo,oc,rfl,ho3,k3⟩;have C3:=CE.out w3 fo fc oo oc ((KW.trans' k2).trans' k3) (hf2.out.1.same k3) hf2.out.2 ho3.out)
    | (go_at_call 98;refine C3.mono ?_;rintro e w4 ⟨tk,tr,tpo,tpl,tpc,tko,tkl,tkc,rfl,hcs,k4⟩))
   obtain ⟨w5,hw5⟩:∃ w5,w5=w4.alloc (.cells #[.int .i64 tk,.int .i64 tr,.slice tpo tpl tpc,.slice tko tkl tkc] 63):=⟨_,rfl⟩;have k45:Za w4 w5:=by rw [hw5];exact Zal9
   have k5:Za (w.alloc Zy) w5:=by rw [<- HW.out];exact ((k2.trans' k3).trans' k4).trans' k45
   have b5:w5.heap[w4.heap.size]? = some (.cells #[.int .i64 tk,.int .i64 tr,.slice tpo tpl tpc,.slice tko tkl tkc] 63 (0,0)):=by rw [hw5];exact heap_alloc_new _ _
   rw [<- hw5];have c0:=Zb b5 0;have c1:=Zb b5 1;have c2:=Zb b5 2;have c3:=Zb b5 3;simp only [List.getElem?_toArray,List.getElem?_cons_zero,List.getElem?_cons_succ] at c0 c1 c2 c3;have hcs5:=hcs.out.same k45;have z1:=HEZ.out;have z3:w.heap.size<w3.heap.size:=by have:=k2.size;have:=k3.size;omega
   clear hw5 C1 C2 C3 CE CF CO CD hf2 ho3 hcs b5;obtain ⟨⟨r0,r1,r2,r3⟩,f0,f1,f2,f3⟩:=Kk _ k5;obtain ⟨⟨g0,g1,g2,g3⟩,kk,ks⟩:=Za4 (w:=w) (x0:=.int .i64 tk) (x1:=.int .i64 tr) (x2:=.slice tpo tpl tpc) (x3:=.slice tko tkl tkc) _ k5;have HF:=HP.out _ _ ks (CsB.mono (λ b hb q=>by have q' : w3.heap.size<=b:=q;show w.heap.size<=b;omega) (CsB.kept kk (λ b q e=>by have q' : w3.heap.size<=b:=q;have e' : b=w.heap.size:=e;omega) hcs5));have GG:Hid (_∧_∧_∧_):=⟨g0,g1,g2,g3⟩;have HF2:Hid (Jm _ _ _ _ _ _):=HF;clear g0 g1 g2 g3 kk ks HF k5 hcs5 z1 z3;go_wp2;obtain ⟨g0,g1,g2,g3⟩:=GG.out;exact bodyPost_ret (v:=.tuple #[.agg #[.int .i64 tk,.int .i64 tr,.slice tpo tpl tpc,.slice tko tkl tkc],.slice none 0 0]) (by simp [results,results55,go_sem,g0,g1,g2,g3]) rfl HF2.out
end
end Go.Proofs.YtmjgnfkbnofjoaaGreatDoor
