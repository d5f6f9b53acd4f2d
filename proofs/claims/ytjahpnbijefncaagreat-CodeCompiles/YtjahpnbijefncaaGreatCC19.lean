import Derived.Test.YtjahpnbijefncaaGreatCC18
namespace Go.Proofs.YtjahpnbijefncaaGreat
set_option maxRecDepth 100000
set_option linter.unusedVariables false
set_option maxHeartbeats 16000000
section
open Go.RowKit
attribute [local go_sem ↓] Go.wp_at_zero Go.wp_at_succ
theorem Zmk {w:World} {rv:Value} {L:List Sym} {ao bo:Option Addr} {ac bc:Nat} {a b:List Int} (hca:Ze L a=0) (hcb:Ze L b=0) (cS:Calls Tryz.prog 153 #[rv,.slice ao a.length ac,.slice bo b.length bc,.bool true] w (SolQ L true (a++b) (jl a b (apI true)) a.length w)) :
  Calls Tryz.prog 119 #[rv,.slice ao a.length ac,.slice bo b.length bc] w λ e w' => e=.returned (.bool (Zbg L a b))∧Za w w' := by
 obtain ⟨a1,a2,a3⟩:=Zg.1 hca;obtain ⟨b1,b2,b3⟩:=Zg.1 hcb;have p1:=Z6 a3;have p2:=Z6 b3;have hT:=Zcn (apart:=(99:Int)) (by omega) a3 b3;have hv:∀ x∈jl a b 99, -198<=x:=Zh2 hca hcb (ap:=99) (by omega);have hJl:(jl a b 99).length=a.length+b.length:=by simp [jl]
 obtain ⟨n1,n2⟩:=Zsn (ap:=99) (by omega) hca hcb;obtain ⟨res,hN,hR1,hR2⟩:=Zgs hT hv (m:=a.length) (by omega) (by omega);have e0:apI true=99:=rfl;rw [e0] at cS;have ec:Zev L a b=0:=by unfold Zev;rw [if_neg (by rw [hca];simp),hcb]
 cases hs:nsF L (jl a b 99) a.length with
 | none=>
  have hs2:=n1 hs;have e1:Zbg L a b=true:=by unfold Zbg;rw [ec,show Zeu L (jl a b 99) a.length=none from hs2];rfl
  rw [e1];have cS2:Calls Tryz.prog 153 #[rv,.slice ao a.length ac,.slice bo b.length bc,.bool true] w λ e w' => e=.returned (.tuple #[.pointer none,.int .i64 0])∧Za w w' := cS.mono (λ e w' g=>⟨g.2.1 hs,g.1⟩)
  clear cS e1 hR1 hR2 hN n1 n2 hT hv hs ec e0 hs2
  go_enter Tryz.func119,Tryz.ntmps119
  go_wp2_with (first | (go_at_call 153;refine cS2.mono ?_;rintro e w1 ⟨rfl,hk1⟩))
  go_ret;exact ⟨rfl,hk1⟩
 | some r=>
  obtain ⟨ld,k⟩:=r
  have hfull:Jt L (jl a b 99) a.length ld∧∃ u,Val L (jl a b 99) ld 0 u∧k=min (u.length:Int) 2001:=by
   cases res with
   | none=>rw [hR1 rfl] at hs;cases hs
   | some ld' =>
    obtain ⟨g1,k', sz', g2,g3,g4⟩:=hR2 ld' rfl
    by_cases e:k' = -1
    ·rw [g3 e] at hs;cases hs
    ·obtain ⟨f1,f2⟩:=g4 e
     rw [f1] at hs;simp only [Option.some.injEq,Prod.mk.injEq] at hs;obtain ⟨rfl,rfl⟩:=hs;exact ⟨g1,f2⟩
  obtain ⟨hcl,u,hu,hku⟩:=hfull;obtain ⟨v,⟨ld2,k2,hsol,_⟩,hvl,hwr⟩:=n2 ld k u hs hcl hu;have p0:Z2 (jl a b 99) 0:=Zn (p:=0) (by omega);have hupos:=Z6 (hu.isT hT hcl.ok p0);have hk0:¬ k=0:=by omega
  have e1:Zbg L a b=false:=by unfold Zbg;rw [show Zeu L (jl a b 99) a.length=some (ld2,k2) from hsol];simp
  rw [e1];have cS2:Calls Tryz.prog 153 #[rv,.slice ao a.length ac,.slice bo b.length bc,.bool true] w λ e w' => (∃ B:NB,e=.returned (.tuple #[.pointer (some ⟨B.nb,0,none⟩),.int .i64 k]))∧Za w w' := cS.mono (λ e w' g=>⟨(g.2.2 ld k hs).imp (λ B h=>h.1),g.1⟩)
  clear cS e1 hR1 hR2 hN n1 n2 hT hv hs ec e0 hcl hu hku hwr hsol
  go_enter Tryz.func119,Tryz.ntmps119
  go_wp2_with (first | (go_at_call 153;refine cS2.mono ?_;rintro e w1 ⟨⟨B,rfl⟩,hk1⟩))
  go_ret;exact ⟨by simp [hk0],hk1⟩
def KA (L:List Sym) (J:List Int) (m:Nat):List (List Int):=(List.range m).map (λ p=>(Zm L J p).map (λ k:Nat=>(k:Int)))
theorem Zqk (L:List Sym) (J:List Int) (m:Nat):KA L J (m+1)=KA L J m ++ [(Zm L J m).map (λ k:Nat=>(k:Int))]:=by
 unfold KA;rw [List.range_succ,List.map_append];rfl
theorem Zlo (L:List Sym) (J:List Int) (m:Nat):(KA L J m).length=m:=by simp [KA]
def Zbw (far:Int) (k:Nat) (ys:List Int):List Int:=(ys.take k).map (λ x=>x+far)++ys.drop k
theorem Kw (far:Int) (k:Nat) (ys:List Int):(Zbw far k ys).length=ys.length:=by simp [Zbw];omega
theorem Zk4 {far:Int} {k:Nat} {ys:List Int} (hk:k<ys.length):(Zbw far k ys).set k (ys[k]+far)=Zbw far (k+1) ys:=by
 unfold Zbw;have l1:((ys.take k).map (λ x=>x+far)).length=k:=by simp;omega
 rw [List.set_append_right _ _ (by omega),l1,Nat.sub_self,List.drop_eq_getElem_cons hk,List.set_cons_zero,List.take_add_one,List.getElem?_eq_getElem hk,List.map_append];simp
theorem Zlz {far:Int} {k:Nat} {ys:List Int} (hk:k<ys.length):(Zbw far k ys)[k]? = some ys[k]:=by
 unfold Zbw;have l1:((ys.take k).map (λ x=>x+far)).length=k:=by simp;omega
 rw [List.getElem?_append_right (by omega),l1,Nat.sub_self,List.drop_eq_getElem_cons hk];rfl
def Kf (N k m la:Nat) (ap:Bool) (T:List Int):List Int:=(List.range m).map (λ i=>if i<k then (up0 ap N la T i:Int) else (i:Int))
def Zal (N:Nat) (T:List Int) (m:Nat):List Int:=(List.range m).map (Ze7 N T)
theorem K9 (N k m la:Nat) (ap:Bool) (T:List Int):(Kf N k m la ap T).length=m:=by simp [Kf]
theorem Zbh (N:Nat) (T:List Int) (m:Nat):(Zal N T m).length=m:=by simp [Zal]
theorem Zq1 (N m la:Nat) (ap:Bool) (T:List Int):Kf N 0 (m+1) la ap T=Kf N 0 m la ap T ++ [(m:Int)]:=by
 unfold Kf;rw [List.range_succ,List.map_append];simp
theorem Zeb (N:Nat) (T:List Int) (m:Nat):Zal N T (m+1)=Zal N T m ++ [Ze7 N T m]:=by
 unfold Zal;rw [List.range_succ,List.map_append];rfl
theorem Zux (N:Nat) (T:List Int) (m i:Nat) (h:i<m):at' (Zal N T m) i=Ze7 N T i:=by
 rw [Yl _ _ (by rw [Zbh];exact h)];unfold Zal;simp
theorem Zu5 (N k m la:Nat) (ap:Bool) (T:List Int) (i:Nat) (h:i<m):at' (Kf N k m la ap T) i=if i<k then (up0 ap N la T i:Int) else (i:Int):=by
 rw [Yl _ _ (by rw [K9];exact h)];unfold Kf;simp
theorem Zk3 (N k m la:Nat) (ap:Bool) (T:List Int) (h:k<m):Kf N (k+1) m la ap T=(Kf N k m la ap T).set k (up0 ap N la T k:Int):=by
 apply List.ext_getElem?;intro i;unfold Kf
 by_cases e:k=i
 ·subst e
  rw [List.getElem?_set_self (by simpa using h),List.getElem?_map,List.getElem?_range h];simp
 ·rw [List.getElem?_set_ne e,List.getElem?_map,List.getElem?_map]
  by_cases hi:i<m
  ·rw [List.getElem?_range hi]
   simp only [Option.map_some,Option.some.injEq]
   by_cases f:i<k
   ·rw [if_pos f,if_pos (by omega)]
   ·rw [if_neg f,if_neg (by omega)]
  ·rw [List.getElem?_eq_none (by simp;omega)];rfl
theorem Zoi (N k m la:Nat) (ap:Bool) (T:List Int) (h:up0 ap N la T k=k):Kf N (k+1) m la ap T=Kf N k m la ap T:=by
 unfold Kf;apply List.map_congr_left;intro i _
 by_cases f:i<k
 ·rw [if_pos f,if_pos (by omega)]
 ·rw [if_neg f]
  by_cases e:i=k
  ·subst e;rw [if_pos (by omega),h]
  ·rw [if_neg (by omega)]
theorem Zhg {n:Nat} (h:n<=98):IntKind.i64.wrap (IntKind.i64.wrap (-(-(n:Int)-1))-1)=(n:Int):=by
 have small:∀ x:Int,0<=x->x<=1000->IntKind.i64.wrap x=x:=by
  intro x h0 h1;unfold IntKind.wrap;simp [IntKind.signed,IntKind.bits];omega
 rw [small (-(-(n:Int)-1)) (by omega) (by omega),small _ (by omega) (by omega)];omega
theorem Zod:(Tryz.prog.info? 32).map (λ i=>(i.zero,i.size,i.bytes))=some (some (.slice none 0 0),1,24):=by kernel_rfl
theorem Zr9 {nn:Nat} {w:World} {rv:Value} {L:List Sym} (h:Rl nn w rv L) {ao bo:Option Addr} {ac bc:Nat} {a b:List Int} (ha:Zh w ao a) (hb:Zh w bo b) (hca:Ze L a=0) (hcb:Ze L b=0) (ap:Bool) :
  Calls Tryz.prog 176 #[rv,.slice ao a.length ac,.slice bo b.length bc,.bool ap] w (Zkr w L ap a b):=by
 obtain ⟨i0,hi0,hz0,hz1,hz2⟩:=info_parts Zdz;obtain ⟨j0,hj0,hy0,hy1,hy2⟩:=info_parts Zod;obtain ⟨a1,a2,a3⟩:=Zg.1 hca;obtain ⟨b1,b2,b3⟩:=Zg.1 hcb;obtain ⟨ro,rc,rfl⟩:=Zf h.1;obtain ⟨N,hN⟩:∃ N,a.length+b.length=N:=⟨_,rfl⟩;obtain ⟨J,hJ⟩:∃ J,jl a b (apI ap)=J:=⟨_,rfl⟩;obtain ⟨T,hT⟩:∃ T,a++b=T:=⟨_,rfl⟩;have hap0:0<=apI ap:=by unfold apI;split <;> omega
 have hJl:J.length=N:=by rw [<- hJ,<- hN];simp [jl]
 have hTl:T.length=N:=by rw [<- hT,<- hN];simp
 have nN:(a.length:Int)+(b.length:Int)=(N:Int):=by omega
 have nA:(a.length:Int)<=2000:=by omega
 have nB:(b.length:Int)<=2000:=by omega
 have KAa:Hid (∀ i,i<a.length->Zm L J i=Zz L a i):=λ i hi=>by rw [<- hJ];exact kids_a hap0 a3 hi
 have KAb:Hid (∀ i,i<b.length->Zm L J (a.length+i)=(Zz L b i).map (λ x=>a.length+x)):=λ i hi=>by rw [<- hJ];exact kids_b hap0 b3 hi
 have L0:LS w ((w.alloc (.cells #[.slice ro L.length rc,.slice none 0 0,.slice none 0 0,.slice none 0 0,.slice none 0 0] 275)).alloc (.cells #[.slice ao a.length ac,.slice bo b.length bc] 64)) (.slice ro L.length rc) (.slice ao a.length ac) (.slice bo b.length bc) (λ _=>.slice none 0 0) (.slice none 0 0) (tri [] [] []) []:=by
  have k1:Za w (w.alloc (.cells #[.slice ro L.length rc,.slice none 0 0,.slice none 0 0,.slice none 0 0,.slice none 0 0] 275)):=(Zc.refl _ w).alloc _;have k2:Za (w.alloc (.cells #[.slice ro L.length rc,.slice none 0 0,.slice none 0 0,.slice none 0 0,.slice none 0 0] 275)) ((w.alloc (.cells #[.slice ro L.length rc,.slice none 0 0,.slice none 0 0,.slice none 0 0,.slice none 0 0] 275)).alloc (.cells #[.slice ao a.length ac,.slice bo b.length bc] 64)):=(Zc.refl _ _).alloc _;refine ⟨⟨λ i _=>?_,λ i j _ _ _ q e=>by simp [Value.ownBlock] at e,λ i _ q e=>by simp [Value.ownBlock] at e,[],World.ownsRow_nil _ _ _ _,λ j hj=>by simp at hj⟩,k2.at0 (heap_alloc_new _ _),?_,k1.trans' k2,by rw [World.size_alloc,World.size_alloc];omega⟩
  ·have:tri [] [] [] i=[]:=by unfold tri;split <;> (try split) <;> rfl
   rw [this];exact World.ownsRow_nil _ _ _ _
  ·have:=heap_alloc_new (w.alloc (.cells #[.slice ro L.length rc,.slice none 0 0,.slice none 0 0,.slice none 0 0,.slice none 0 0] 275)) (.cells #[.slice ao a.length ac,.slice bo b.length bc] 64)
   rwa [World.size_alloc] at this
 have hLM:Zkr w L ap a b=λ e w' => ∃ B,e=.returned (.pointer (some ⟨B.nb,0,none⟩))∧NC L B w' T J (up0 ap N a.length T) (Ze7 N T)∧B.top<=w'.heap.size∧Za w w' ∧ w.heap.size<=B.ub∧w.heap.size<=B.rb:=by
  unfold Zkr;rw [hT,hJ,hN]
 have HLM:Hid (Zkr w L ap a b=λ e w' => ∃ B,e=.returned (.pointer (some ⟨B.nb,0,none⟩))∧NC L B w' T J (up0 ap N a.length T) (Ze7 N T)∧B.top<=w'.heap.size∧Za w w' ∧ w.heap.size<=B.ub∧w.heap.size<=B.rb):=hLM;have HT:Hid (a++b=T∧a.length+b.length=N):=⟨hT,hN⟩
 have HLOW:Hid (∀ i:Nat,i<N -> -99<=at' T i):=by
  intro i hi;have ei:i<(a++b).length:=by simp;omega
  rw [<- hT,Yl _ _ ei]
  rcases List.mem_append.1 (List.getElem_mem ei) with e | e
  ·exact ((Z4.1 a2) _ e).2
  ·exact ((Z4.1 b2) _ e).2
 have HPOS:Hid (0<N):=by
  have:0<a.length:=by
   cases a with
   | nil=>exact absurd a3 (by unfold IsT;intro f;cases f)
   | cons x r=>simp
  show 0<N;omega
 clear hLM hJ hT hN hca hcb
 go_enter Tryz.func176,Tryz.ntmps176
 go_wp2_with fail
 obtain ⟨w1,hw1⟩:∃ w1,((w.alloc (.cells #[.slice ro L.length rc,.slice none 0 0,.slice none 0 0,.slice none 0 0,.slice none 0 0] 275)).alloc (.cells #[.slice ao a.length ac,.slice bo b.length bc] 64))=w1:=⟨_,rfl⟩;rw [hw1] at L0 ⊢;clear hw1
 go_loopw [12] (λ s12 wr=>∃ (wv:Nat) (vs:Nat->Value) (va:Value),s12=.int .i64 (wv:Int)∧wv<=2∧LS w wr (.slice ro L.length rc) (.slice ao a.length ac) (.slice bo b.length bc) vs va (tri (T.take (if wv=0 then 0 else if wv=1 then a.length else N)) [] []) (KA L J (if wv=0 then 0 else if wv=1 then a.length else N))) (λ s12 _=>2-(intOf s12).toNat)
 case atStart=>exact ⟨0,_,_,rfl,by omega,by simpa [KA] using L0⟩
 case round=>
  clear L0;obtain ⟨wv,vs,va,rfl,hwv,hLS⟩:=hrel
  rcases (show wv=0∨wv=1∨wv=2 by omega) with rfl | rfl | rfl
  ·-- the term number 0
   have LSx:LS w wr (.slice ro L.length rc) (.slice ao a.length ac) (.slice bo b.length bc) vs va (tri (T.take 0) [] []) (KA L J 0):=hLS;clear hLS
   go_wp2_with fail
   go_loopw [14] (λ s14 wr=>∃ (i:Nat) (vs:Nat->Value) (va:Value),s14=.int .i64 (i:Int)∧i<=a.length∧LS w wr (.slice ro L.length rc) (.slice ao a.length ac) (.slice bo b.length bc) vs va (tri (T.take (0+i)) [] []) (KA L J (0+i))) (λ s14 _=>a.length-(intOf s14).toNat)
   case atStart=>exact ⟨0,vs,va,rfl,Nat.zero_le _,LSx⟩
   case round=>
    clear LSx;obtain ⟨i,vs,va,rfl,hi,hLS⟩:=hrel;obtain ⟨c1,c2,c3,c4,c5,c6,c7⟩:=hLS.cells
    by_cases hlt:i<a.length
    ·obtain ⟨m,hm⟩:∃ m,0+i=m:=⟨_,rfl⟩
     rw [hm] at hLS;have hmT:m<T.length:=by have:=HT.out.2;omega
     have hTm:T[m]=a[i]:=by
      have e:=HT.out.1;subst hm;simp only [<- e];rw [List.getElem_append_left (by omega)];congr 1;omega
     have hXr:=ha.same hLS.kept;have cA:=Zbn (cap:=ac) (h.same hLS.kept) hXr a1 a3 i hlt;obtain ⟨ys,hys⟩:∃ ys,ofN (Zz L a i)=ys:=⟨_,rfl⟩
     have hkid:(Zm L J m).map (λ k:Nat=>(k:Int))=ys.map (λ x=>x+(0:Int)):=by
      rw [<- hm,<- hys];rw [Nat.zero_add,KAa.out i hlt];simp [ofN]
     have hyb:∀ y∈ys,0<=y∧y<=2000:=by
      intro y hy;rw [<- hys] at hy;unfold ofN at hy;obtain ⟨k,hk,rfl⟩:=List.mem_map.1 hy;rw [Ya hlt] at hk;have:=Zbj (Zu.one a3 hlt).kids.2 k hk;omega
     rw [hys] at cA;have z1:(0:Int)<=(i:Int):=by omega
     have z2:(i:Int)<(a.length:Int):=by omega
     have z3:(i:Int)<=2000:=by omega
     have z4:(0:Int)<=(a.length:Int):=by omega
     have HKID:Hid ((Zm L J m).map (λ k:Nat=>(k:Int))=ys.map (λ x=>x+(0:Int))∧ofN (Zz L a i)=ys):=⟨hkid,hys⟩;have HYB:Hid (∀ y∈ys,0<=y∧y<=2000):=hyb;have HTM:Hid (T[m]=a[i]):=hTm;clear hkid hys hyb hTm
     go_upto_region 12 with (first | (go_at_call 66;refine cA.mono ?_;rintro e w5 ⟨v5,rfl,hr5,hk5⟩))
     obtain ⟨go,gc,hv5⟩:=Zf hr5;subst hv5;have hL5:=hLS.same hk5;have hsz:=hk5.size;obtain ⟨n,hn⟩:∃ n,ys.length=n:=⟨_,rfl⟩;rw [hn] at hr5 ⊢;clear cA;obtain ⟨B5,hB5⟩:∃ B5,wr.heap.size=B5:=⟨_,rfl⟩
     have HV:Hid (w.heap.size+2<=B5∧∀ q,B5<=q->va.ownBlock≠some q∧∀ i,i<3->(vs i).ownBlock≠some q):=by
      refine ⟨by rw [<- hB5];exact hLS.big,λ q hq=>⟨λ e=>?_,λ j hj e=>?_⟩⟩
      ·obtain ⟨cs,g1,_⟩:=hLS.fam.ar
       have:=(World.ownsRow.lt g1 q e).2;omega
      ·have:=(World.ownsRow.lt (hLS.fam.rows j hj) q e).2;omega
     rw [hB5] at hr5 hsz;have HB5:Hid (wr.heap.size=B5):=hB5;clear hB5
     go_wp2_with fail
     go_loopw [16] (λ s16 wx=>∃ k:Nat,s16=.int .i64 (k:Int)∧k<=n∧Row B5 wx (.slice go n gc) (Zbw (0:Int) k ys)∧Za wr wx) (λ s16 _=>n-(intOf s16).toNat)
     case atStart=>exact ⟨0,rfl,Nat.zero_le _,by simpa [Zbw] using hr5,hk5⟩
     case round=>
      clear hr5 hL5 hk5;obtain ⟨k,rfl,hk,hr5,hk5⟩:=hrel
      by_cases hkn:k<n
      ·have hky:k<ys.length:=by omega
       obtain ⟨g5,cap5,hv5,hg1,hg2⟩:=World.ownsRow.form hr5 (by rw [Kw];omega);simp only [Value.slice.injEq] at hv5;obtain ⟨rfl,_,rfl⟩:=hv5
       have hr5:wr.ownsRow B5 3 1 (.slice (some ⟨g5,0,none⟩) n gc) n (iv (Zbw (0:Int) k ys)):=by
        have:=hr5;unfold Row at this;rw [Kw,hn] at this;exact this
       have hgc:=hr5.cellAt k (by omega);rw [show (iv (Zbw (0:Int) k ys))[k]? = some (.int .i64 ys[k]) by unfold iv;rw [List.getElem?_map,Zlz hky];rfl] at hgc;have hgf:=hr5.frozenAt k;obtain ⟨hy1', hy2'⟩:=HYB.out ys[k] (List.getElem_mem _);have hst:=(hr5.stored k (.int .i64 (ys[k]+(0:Int)))).1
       have hst2:Row B5 (wr.setCell ⟨g5,k,none⟩ (.int .i64 (ys[k]+(0:Int)))) (.slice (some ⟨g5,0,none⟩) n gc) (Zbw (0:Int) (k+1) ys):=by
        have e1:(iv (Zbw (0:Int) k ys)).set k (.int .i64 (ys[k]+(0:Int)))=iv (Zbw (0:Int) (k+1) ys):=by
         unfold iv;rw [<- List.map_set,Zk4 hky]
        rw [e1] at hst;have e2:n=(Zbw (0:Int) (k+1) ys).length:=by rw [Kw,hn]
        unfold Row;rw [<- e2];exact hst
       have hk6:Za _ (wr.setCell ⟨g5,k,none⟩ (.int .i64 (ys[k]+(0:Int)))):=Zc.setCell (p:=⟨g5,k,none⟩) hk5 (λ hq=>by have:=HB5.out;simp only at hq;omega) _;obtain ⟨yk,hyk⟩:∃ yk,ys[k]=yk:=⟨_,rfl⟩;rw [hyk] at hgc hy1' hy2' hst2 hk6;have q1:(0:Int)<=(k:Int):=by omega
       have q2:(k:Int)<(n:Int):=by omega
       have q3:(k:Int)<4000:=by
        have:=HKID.out.2;have h1:=Ji (Zu.one a3 hlt).kids.2;have h2:=(Zax a3 hlt).2;have h3:ys.length=arN L a[i]:=by rw [<- this];unfold ofN;rw [List.length_map,Ya hlt,Zl]
        omega
       clear hst hyk hr5
       go_wp2_with fail
       go_roundw
       case rel=>exact ⟨k+1,by go_num,by omega,by first | exact hst2 | (rw [Int.add_zero] at hst2;exact hst2),by first | exact hk6 | (rw [Int.add_zero] at hk6;exact hk6)⟩
       case measure=>simp [intOf];omega
      ·have hke:k=n:=by omega
       have q2:¬ (k:Int)<(n:Int):=by omega
       have hr6:Row B5 wr (.slice go n gc) ((Zm L J m).map (λ k:Nat=>(k:Int))):=by
        rw [HKID.out.1]
        have:Zbw (0:Int) k ys=ys.map (λ x=>x+(0:Int)):=by
         unfold Zbw;rw [hke,<- hn,List.take_length,List.drop_length,List.append_nil]
        rw [<- this];exact hr5
       have hL6:LS w wr (.slice ro L.length rc) (.slice ao a.length ac) (.slice bo b.length bc) vs va (tri (T.take m) [] []) (KA L J m):=hLS.same hk5;obtain ⟨c1,c2,c3,c4,c5,c6,c7⟩:=hL6.cells;obtain ⟨z,hz⟩:∃ z,T[m]=z:=⟨_,rfl⟩;obtain ⟨to', tcap,hv0⟩:=Zf (hL6.fam.rows 0 (by omega));have hl0:(tri (T.take m) [] [] 0).length=m:=by show (T.take m).length=m;rw [List.length_take];omega
       rw [hl0] at hv0
       have hrow0:wr.ownsRow (w.heap.size+2) 3 1 (vs 0) m (iv (T.take m)):=by
        have h0:wr.ownsRow (w.heap.size+2) 3 1 (vs 0) (tri (T.take m) [] [] 0).length (iv (T.take m)):=hL6.fam.rows 0 (by omega);rw [hl0] at h0;exact h0
       rw [hv0] at c1 hrow0;have hn1:m+1<=maxLen:=by unfold maxLen;omega
       have hn2:(m+1) * 8<=140737488355328:=by omega
       have hb9:w.heap.size+2<=(wr.alloc (.cells #[.int .i64 z] 3)).drew.heap.size:=by
        show _<=(wr.alloc (.cells #[.int .i64 z] 3)).heap.size;rw [World.size_alloc];have:=hL6.big;omega
       have PE:Hid (∀ gg cap' w9,w9.ownsRow (w.heap.size+2) 3 1 (.slice (some ⟨gg,0,none⟩) (m+1) cap') (m+1) (iv (T.take m) ++ [.int .i64 z])->(wr.alloc (.cells #[.int .i64 z] 3)).drew.grownBy w9 (Value.slice to' m tcap).ownBlock->((Value.slice to' m tcap).ownBlock=some gg∨gg=(wr.alloc (.cells #[.int .i64 z] 3)).drew.heap.size)->LS w (w9.setCell ⟨w.heap.size,1,none⟩ (.slice (some ⟨gg,0,none⟩) (m+1) cap')) (.slice ro L.length rc) (.slice ao a.length ac) (.slice bo b.length bc) (λ j=>if j=0 then .slice (some ⟨gg,0,none⟩) (m+1) cap' else vs j) va (tri (T.take (m+1)) [] []) (KA L J m)∧w9.cell? ⟨w.heap.size,1,none⟩=some (vs 0)∧w9.frozen? ⟨w.heap.size,1,none⟩=false∧Zc (λ q=>q=w.heap.size∨(vs 0).ownBlock=some q) wr (w9.setCell ⟨w.heap.size,1,none⟩ (.slice (some ⟨gg,0,none⟩) (m+1) cap'))∧∀ q,(Value.slice go n gc).ownBlock=some q->q≠gg):=by
        intro gg cap' w9 q1 q2 q3;rw [<- hv0] at q2 q3;have kd:Za wr (wr.alloc (.cells #[.int .i64 z] 3)).drew:=Zc.drew (Zc.alloc (Zc.refl _ wr) _);obtain ⟨r1,r2,r3⟩:=hL6.push (i:=0) (s:=1) (by omega) rfl hl0 kd q1 q2 q3 kd.size (xs' := tri (T.take (m+1)) [] []) (by show T.take (m+1)=T.take m ++ [z];rw [List.take_add_one,List.getElem?_eq_getElem hmT,hz];rfl) (λ j _ e=>by unfold tri;rw [if_neg e,if_neg e]);refine ⟨r1,r2,r3,?_,λ q e f=>?_⟩
        rotate_left
        ·subst f
         rcases q3 with g | g
         ·exact (HV.out.2 q (Xd hr6 e)).2 0 (by omega) g
         ·have h1:=(World.ownsRow.lt hr6 q e).2
          have h2:wr.heap.size+1=(wr.alloc (.cells #[.int .i64 z] 3)).drew.heap.size:=(World.size_alloc _ _).symm;omega
        have kg:Zc (λ q=>q=w.heap.size∨(vs 0).ownBlock=some q) wr w9:=Zc.grown (Zc.mono kd (λ _ _ f=>f.elim)) q2 (λ q e _=>.inr e);exact Zc.setCell (p:=⟨w.heap.size,1,none⟩) kg (λ _=>.inl rfl) _
       have P7:Hid (∀ (gg cap' : Nat) (w8:World) (vs' : Nat->Value),LS w w8 (.slice ro L.length rc) (.slice ao a.length ac) (.slice bo b.length bc) vs' va (tri (T.take (m+1)) [] []) (KA L J m)->Row (w.heap.size+2) w8 (.slice go n gc) ((Zm L J m).map (λ k:Nat=>(k:Int)))->(∀ q,(Value.slice go n gc).ownBlock=some q->va.ownBlock≠some q∧∀ i,i<3->(vs' i).ownBlock≠some q)->∃ cs vO vC,va=.slice vO m vC∧w8.ownsRow (w.heap.size+2) 32 1 (.slice vO m vC) m cs∧∀ (gg cap' : Nat) (w9:World),w9.ownsRow (w.heap.size+2) 32 1 (.slice (some ⟨gg,0,none⟩) (m+1) cap') (m+1) (cs ++ [.slice go n gc])->(w8.alloc (.cells #[.slice go n gc] 32)).grownBy w9 (Value.slice vO m vC).ownBlock->((Value.slice vO m vC).ownBlock=some gg∨gg=(w8.alloc (.cells #[.slice go n gc] 32)).heap.size)->LS w (w9.setCell ⟨w.heap.size,2,none⟩ (.slice (some ⟨gg,0,none⟩) (m+1) cap')) (.slice ro L.length rc) (.slice ao a.length ac) (.slice bo b.length bc) vs' (.slice (some ⟨gg,0,none⟩) (m+1) cap') (tri (T.take (m+1)) [] []) (KA L J (m+1))∧w9.cell? ⟨w.heap.size,2,none⟩=some va∧w9.frozen? ⟨w.heap.size,2,none⟩=false):=by
        intro _ _ w8 vs' h1 h2 h3;obtain ⟨cs,hcs1,_⟩:=h1.fam.ar;rw [Zlo] at hcs1;obtain ⟨vO,vC,hva⟩:=Zf hcs1;refine ⟨cs,vO,vC,hva,hva ▸ hcs1,?_⟩;intro gg cap' w9 q1 q2 q3;rw [Zqk];rw [<- hva] at q2 q3;have kd:Za w8 (w8.alloc (.cells #[.slice go n gc] 32)):=Zc.alloc (Zc.refl _ w8) _;exact h1.more (Zlo _ _ _) h2 h3 hcs1 kd q1 q2 q3 kd.size
       have hrow8:Hid (∀ w8,Zc (λ q=>q=w.heap.size∨(vs 0).ownBlock=some q) wr w8->Row (w.heap.size+2) w8 (.slice go n gc) ((Zm L J m).map (λ k:Nat=>(k:Int)))):=by
        intro w8 hk8;refine (hk8.row (Yi hr6 HV.out.1) (λ q e=>?_));have:=Xd hr6 e;rintro (f | f)
        ·have:=HV.out.1;omega
        ·exact (HV.out.2 q this).2 0 (by omega) f
       have hX6:=ha.same hL6.kept;obtain ⟨xb,xof,hxo,hx1,hx2⟩:=hX6.get hlt;rw [<- HTM.out,hz] at hx2;rw [hxo] at c5
       have c1a:(wr.alloc (.cells #[.int .i64 z] 3)).drew.cell? ⟨w.heap.size,1,none⟩=some (.slice to' m tcap):=by
        have:=(hL6.same (Zc.drew (Zc.alloc (Zc.refl _ wr) (.cells #[.int .i64 z] 3)))).cells.1;rw [this,hv0]
       have VA:Hid (∀ gg,(∀ q,(Value.slice go n gc).ownBlock=some q->q≠gg)->∀ (cap' q:Nat),(Value.slice go n gc).ownBlock=some q->va.ownBlock≠some q∧∀ i,i<3->((λ j=>if j=0 then Value.slice (some ⟨gg,0,none⟩) (m+1) cap' else vs j) i).ownBlock≠some q):=by
        intro gg hf cap' q e;obtain ⟨x1,x2⟩:=HV.out.2 q (Xd hr6 e);refine ⟨x1,λ i hi=>?_⟩
        by_cases ei:i=0
        ·simp only [ei,if_true,Value.ownBlock]
         intro f;simp only [Option.some.injEq] at f;exact hf q e f.symm
        ·simp only [ei,if_false];exact x2 i hi
       clear hL6 hXr hX6 hLS hr5 hr6 hl0 hv0 hxo hke
       go_upto_region 16 with fail
       go_cut [] from 70 to 85 (λ wc=>∃ gg cap', LS w wc (.slice ro L.length rc) (.slice ao a.length ac) (.slice bo b.length bc) (λ j=>if j=0 then .slice (some ⟨gg,0,none⟩) (m+1) cap' else vs j) va (tri (T.take (m+1)) [] []) (KA L J m)∧Zc (λ q=>q=w.heap.size∨(vs 0).ownBlock=some q) wr wc∧∀ q,(Value.slice go n gc).ownBlock=some q->q≠gg)
       case first=>
        clear P7 VA hrow8
        go_region_law (refine step_append_lies _ (by rfl) _ _ 32 (by rfl) (w.heap.size+2) 3 i0 _ 1 8 Tryz.underlying32 hi0 hz0 hz1 hz2 rfl (by omega) (.slice to' m tcap) m (iv (T.take m)) (by rfl) ((hrow0.alloc _).drew) ⟨wr.heap.size,0,none⟩ 1 1 [.int .i64 z] (by rfl) (by rfl) (World.news_of_block (cs:=#[.int .i64 z]) (t:=3) (fr:=(0,0)) (heap_alloc_new wr _)) (by simp [Value.oneCell']) (by omega) hn1 hn2 hb9 _ rfl ?_;intro gg cap' w9 hown hgrow hat hlt9;obtain ⟨p1,p2,p3,p4,p5⟩:=PE.out gg cap' w9 hown hgrow hat)
        all_goals
         go_wp2_with fail
         go_meet;exact ⟨gg,cap', p1,p4,p5⟩
       case rest=>
        obtain ⟨gg,cap', hL7,hK7,hf7⟩:=hcut;obtain ⟨cs,vO,vC,hva,hrow8', P8⟩:=P7.out 0 0 wc _ hL7 (hrow8.out wc hK7) (VA.out gg hf7 cap');clear P7 VA hrow8 PE c1a hrow0 hb9 c1 c2 c3 c4 c5 c6 c7;obtain ⟨c1,c2,c3,c4,c5,c6,c7⟩:=hL7.cells;rw [hva] at c2;have PE:Hid (∀ (gg cap' : Nat) (w9:World),w9.ownsRow (w.heap.size+2) 32 1 (.slice (some ⟨gg,0,none⟩) (m+1) cap') (m+1) (cs ++ [.slice go n gc])->(wc.alloc (.cells #[.slice go n gc] 32)).grownBy w9 (Value.slice vO m vC).ownBlock->((Value.slice vO m vC).ownBlock=some gg∨gg=(wc.alloc (.cells #[.slice go n gc] 32)).heap.size)->_):=P8
        have hb9:w.heap.size+2<=(wc.alloc (.cells #[.slice go n gc] 32)).heap.size:=by
         rw [World.size_alloc];have:=hL7.big;omega
        have hn3:(m+1) * 24<=140737488355328:=by omega
        clear P8 hL7 hK7 hva
        go_wp2_with (first | (at_builtin;refine wpList_append_lies _ rfl _ _ 48 rfl (w.heap.size+2) 32 j0 _ 1 24 Tryz.underlying48 hj0 hy0 hy1 hy2 rfl (by omega) (.slice vO m vC) m cs rfl (hrow8'.alloc _) ⟨wc.heap.size,0,none⟩ 1 1 [.slice go n gc] rfl rfl (World.news_of_block (cs:=#[.slice go n gc]) (t:=32) (fr:=(0,0)) (heap_alloc_new wc _)) (by simp [Value.oneCell']) (by omega) hn1 hn3 hb9 _ rfl ?_;intro gg' cap'' w9 hown hgrow hat hlt9;obtain ⟨p1,p2,p3⟩:=PE.out gg' cap'' w9 hown hgrow hat))
        go_roundw
        case rel=>
         refine ⟨i+1,by omega,by omega,(λ j=>if j=0 then .slice (some ⟨gg,0,none⟩) (m+1) cap' else vs j),.slice (some ⟨gg', 0,none⟩) (m+1) cap'', ?_⟩
         first | (rw [show 0+(i+1)=m+1 by omega];exact p1) | (rw [show i+1=m+1 by omega];exact p1)
        case measure=>simp [intOf];omega
    ·have hie:i=a.length:=by omega
     have q2:¬ (i:Int)<(a.length:Int):=by omega
     have hL8:LS w wr (.slice ro L.length rc) (.slice ao a.length ac) (.slice bo b.length bc) vs va (tri (T.take (if 0+1=0 then 0 else if 0+1=1 then a.length else N)) [] []) (KA L J (if 0+1=0 then 0 else if 0+1=1 then a.length else N)):=by
      have e1:(if 0+1=0 then 0 else if 0+1=1 then a.length else N)=0+i:=by have:=HT.out.2;simp;omega
      rw [e1];exact hLS
     clear hLS
     go_wp2_with fail
     go_roundw
     case rel=>first | exact ⟨0+1,vs,va,by go_num,by omega,hL8⟩ | exact ⟨0+1,by first | rfl | omega | simp,by omega,vs,va,hL8⟩
     case measure=>simp [intOf]
  ·-- the term number 1
   have LSx:LS w wr (.slice ro L.length rc) (.slice ao a.length ac) (.slice bo b.length bc) vs va (tri (T.take a.length) [] []) (KA L J a.length):=hLS;clear hLS
   go_wp2_with fail
   go_loopw [14] (λ s14 wr=>∃ (i:Nat) (vs:Nat->Value) (va:Value),s14=.int .i64 (i:Int)∧i<=b.length∧LS w wr (.slice ro L.length rc) (.slice ao a.length ac) (.slice bo b.length bc) vs va (tri (T.take (a.length+i)) [] []) (KA L J (a.length+i))) (λ s14 _=>b.length-(intOf s14).toNat)
   case atStart=>exact ⟨0,vs,va,rfl,Nat.zero_le _,LSx⟩
   case round=>
    clear LSx;obtain ⟨i,vs,va,rfl,hi,hLS⟩:=hrel;obtain ⟨c1,c2,c3,c4,c5,c6,c7⟩:=hLS.cells
    by_cases hlt:i<b.length
    ·obtain ⟨m,hm⟩:∃ m,a.length+i=m:=⟨_,rfl⟩
     rw [hm] at hLS;have hmT:m<T.length:=by have:=HT.out.2;omega
     have hTm:T[m]=b[i]:=by
      have e:=HT.out.1;subst hm;simp only [<- e];rw [List.getElem_append_right (by omega)];congr 1;omega
     have hXr:=hb.same hLS.kept;have cA:=Zbn (cap:=bc) (h.same hLS.kept) hXr b1 b3 i hlt;obtain ⟨ys,hys⟩:∃ ys,ofN (Zz L b i)=ys:=⟨_,rfl⟩
     have hkid:(Zm L J m).map (λ k:Nat=>(k:Int))=ys.map (λ x=>x+(a.length:Int)):=by
      rw [<- hm,<- hys];rw [KAb.out i hlt];unfold ofN;rw [List.map_map,List.map_map];apply List.map_congr_left;intro k _;simp only [Function.comp_apply];omega
     have hyb:∀ y∈ys,0<=y∧y<=2000:=by
      intro y hy;rw [<- hys] at hy;unfold ofN at hy;obtain ⟨k,hk,rfl⟩:=List.mem_map.1 hy;rw [Ya hlt] at hk;have:=Zbj (Zu.one b3 hlt).kids.2 k hk;omega
     rw [hys] at cA;have z1:(0:Int)<=(i:Int):=by omega
     have z2:(i:Int)<(b.length:Int):=by omega
     have z3:(i:Int)<=2000:=by omega
     have z4:(0:Int)<=(a.length:Int):=by omega
     have HKID:Hid ((Zm L J m).map (λ k:Nat=>(k:Int))=ys.map (λ x=>x+(a.length:Int))∧ofN (Zz L b i)=ys):=⟨hkid,hys⟩;have HYB:Hid (∀ y∈ys,0<=y∧y<=2000):=hyb;have HTM:Hid (T[m]=b[i]):=hTm;clear hkid hys hyb hTm
     go_upto_region 12 with (first | (go_at_call 66;refine cA.mono ?_;rintro e w5 ⟨v5,rfl,hr5,hk5⟩))
     obtain ⟨go,gc,hv5⟩:=Zf hr5;subst hv5;have hL5:=hLS.same hk5;have hsz:=hk5.size;obtain ⟨n,hn⟩:∃ n,ys.length=n:=⟨_,rfl⟩;rw [hn] at hr5 ⊢;clear cA;obtain ⟨B5,hB5⟩:∃ B5,wr.heap.size=B5:=⟨_,rfl⟩
     have HV:Hid (w.heap.size+2<=B5∧∀ q,B5<=q->va.ownBlock≠some q∧∀ i,i<3->(vs i).ownBlock≠some q):=by
      refine ⟨by rw [<- hB5];exact hLS.big,λ q hq=>⟨λ e=>?_,λ j hj e=>?_⟩⟩
      ·obtain ⟨cs,g1,_⟩:=hLS.fam.ar
       have:=(World.ownsRow.lt g1 q e).2;omega
      ·have:=(World.ownsRow.lt (hLS.fam.rows j hj) q e).2;omega
     rw [hB5] at hr5 hsz;have HB5:Hid (wr.heap.size=B5):=hB5;clear hB5
     go_wp2_with fail
     go_loopw [16] (λ s16 wx=>∃ k:Nat,s16=.int .i64 (k:Int)∧k<=n∧Row B5 wx (.slice go n gc) (Zbw (a.length:Int) k ys)∧Za wr wx) (λ s16 _=>n-(intOf s16).toNat)
     case atStart=>exact ⟨0,rfl,Nat.zero_le _,by simpa [Zbw] using hr5,hk5⟩
     case round=>
      clear hr5 hL5 hk5;obtain ⟨k,rfl,hk,hr5,hk5⟩:=hrel
      by_cases hkn:k<n
      ·have hky:k<ys.length:=by omega
       obtain ⟨g5,cap5,hv5,hg1,hg2⟩:=World.ownsRow.form hr5 (by rw [Kw];omega);simp only [Value.slice.injEq] at hv5;obtain ⟨rfl,_,rfl⟩:=hv5
       have hr5:wr.ownsRow B5 3 1 (.slice (some ⟨g5,0,none⟩) n gc) n (iv (Zbw (a.length:Int) k ys)):=by
        have:=hr5;unfold Row at this;rw [Kw,hn] at this;exact this
       have hgc:=hr5.cellAt k (by omega);rw [show (iv (Zbw (a.length:Int) k ys))[k]? = some (.int .i64 ys[k]) by unfold iv;rw [List.getElem?_map,Zlz hky];rfl] at hgc;have hgf:=hr5.frozenAt k;obtain ⟨hy1', hy2'⟩:=HYB.out ys[k] (List.getElem_mem _);have hst:=(hr5.stored k (.int .i64 (ys[k]+(a.length:Int)))).1
       have hst2:Row B5 (wr.setCell ⟨g5,k,none⟩ (.int .i64 (ys[k]+(a.length:Int)))) (.slice (some ⟨g5,0,none⟩) n gc) (Zbw (a.length:Int) (k+1) ys):=by
        have e1:(iv (Zbw (a.length:Int) k ys)).set k (.int .i64 (ys[k]+(a.length:Int)))=iv (Zbw (a.length:Int) (k+1) ys):=by
         unfold iv;rw [<- List.map_set,Zk4 hky]
        rw [e1] at hst;have e2:n=(Zbw (a.length:Int) (k+1) ys).length:=by rw [Kw,hn]
        unfold Row;rw [<- e2];exact hst
       have hk6:Za _ (wr.setCell ⟨g5,k,none⟩ (.int .i64 (ys[k]+(a.length:Int)))):=Zc.setCell (p:=⟨g5,k,none⟩) hk5 (λ hq=>by have:=HB5.out;simp only at hq;omega) _;obtain ⟨yk,hyk⟩:∃ yk,ys[k]=yk:=⟨_,rfl⟩;rw [hyk] at hgc hy1' hy2' hst2 hk6;have q1:(0:Int)<=(k:Int):=by omega
       have q2:(k:Int)<(n:Int):=by omega
       have q3:(k:Int)<4000:=by
        have:=HKID.out.2;have h1:=Ji (Zu.one b3 hlt).kids.2;have h2:=(Zax b3 hlt).2;have h3:ys.length=arN L b[i]:=by rw [<- this];unfold ofN;rw [List.length_map,Ya hlt,Zl]
        omega
       clear hst hyk hr5
       go_wp2_with fail
       go_roundw
       case rel=>exact ⟨k+1,by go_num,by omega,by first | exact hst2 | (rw [Int.add_zero] at hst2;exact hst2),by first | exact hk6 | (rw [Int.add_zero] at hk6;exact hk6)⟩
       case measure=>simp [intOf];omega
      ·have hke:k=n:=by omega
       have q2:¬ (k:Int)<(n:Int):=by omega
       have hr6:Row B5 wr (.slice go n gc) ((Zm L J m).map (λ k:Nat=>(k:Int))):=by
        rw [HKID.out.1]
        have:Zbw (a.length:Int) k ys=ys.map (λ x=>x+(a.length:Int)):=by
         unfold Zbw;rw [hke,<- hn,List.take_length,List.drop_length,List.append_nil]
        rw [<- this];exact hr5
       have hL6:LS w wr (.slice ro L.length rc) (.slice ao a.length ac) (.slice bo b.length bc) vs va (tri (T.take m) [] []) (KA L J m):=hLS.same hk5;obtain ⟨c1,c2,c3,c4,c5,c6,c7⟩:=hL6.cells;obtain ⟨z,hz⟩:∃ z,T[m]=z:=⟨_,rfl⟩;obtain ⟨to', tcap,hv0⟩:=Zf (hL6.fam.rows 0 (by omega));have hl0:(tri (T.take m) [] [] 0).length=m:=by show (T.take m).length=m;rw [List.length_take];omega
       rw [hl0] at hv0
       have hrow0:wr.ownsRow (w.heap.size+2) 3 1 (vs 0) m (iv (T.take m)):=by
        have h0:wr.ownsRow (w.heap.size+2) 3 1 (vs 0) (tri (T.take m) [] [] 0).length (iv (T.take m)):=hL6.fam.rows 0 (by omega);rw [hl0] at h0;exact h0
       rw [hv0] at c1 hrow0;have hn1:m+1<=maxLen:=by unfold maxLen;omega
       have hn2:(m+1) * 8<=140737488355328:=by omega
       have hb9:w.heap.size+2<=(wr.alloc (.cells #[.int .i64 z] 3)).drew.heap.size:=by
        show _<=(wr.alloc (.cells #[.int .i64 z] 3)).heap.size;rw [World.size_alloc];have:=hL6.big;omega
       have PE:Hid (∀ gg cap' w9,w9.ownsRow (w.heap.size+2) 3 1 (.slice (some ⟨gg,0,none⟩) (m+1) cap') (m+1) (iv (T.take m) ++ [.int .i64 z])->(wr.alloc (.cells #[.int .i64 z] 3)).drew.grownBy w9 (Value.slice to' m tcap).ownBlock->((Value.slice to' m tcap).ownBlock=some gg∨gg=(wr.alloc (.cells #[.int .i64 z] 3)).drew.heap.size)->LS w (w9.setCell ⟨w.heap.size,1,none⟩ (.slice (some ⟨gg,0,none⟩) (m+1) cap')) (.slice ro L.length rc) (.slice ao a.length ac) (.slice bo b.length bc) (λ j=>if j=0 then .slice (some ⟨gg,0,none⟩) (m+1) cap' else vs j) va (tri (T.take (m+1)) [] []) (KA L J m)∧w9.cell? ⟨w.heap.size,1,none⟩=some (vs 0)∧w9.frozen? ⟨w.heap.size,1,none⟩=false∧Zc (λ q=>q=w.heap.size∨(vs 0).ownBlock=some q) wr (w9.setCell ⟨w.heap.size,1,none⟩ (.slice (some ⟨gg,0,none⟩) (m+1) cap'))∧∀ q,(Value.slice go n gc).ownBlock=some q->q≠gg):=by
        intro gg cap' w9 q1 q2 q3;rw [<- hv0] at q2 q3;have kd:Za wr (wr.alloc (.cells #[.int .i64 z] 3)).drew:=Zc.drew (Zc.alloc (Zc.refl _ wr) _);obtain ⟨r1,r2,r3⟩:=hL6.push (i:=0) (s:=1) (by omega) rfl hl0 kd q1 q2 q3 kd.size (xs' := tri (T.take (m+1)) [] []) (by show T.take (m+1)=T.take m ++ [z];rw [List.take_add_one,List.getElem?_eq_getElem hmT,hz];rfl) (λ j _ e=>by unfold tri;rw [if_neg e,if_neg e]);refine ⟨r1,r2,r3,?_,λ q e f=>?_⟩
        rotate_left
        ·subst f
         rcases q3 with g | g
         ·exact (HV.out.2 q (Xd hr6 e)).2 0 (by omega) g
         ·have h1:=(World.ownsRow.lt hr6 q e).2
          have h2:wr.heap.size+1=(wr.alloc (.cells #[.int .i64 z] 3)).drew.heap.size:=(World.size_alloc _ _).symm;omega
        have kg:Zc (λ q=>q=w.heap.size∨(vs 0).ownBlock=some q) wr w9:=Zc.grown (Zc.mono kd (λ _ _ f=>f.elim)) q2 (λ q e _=>.inr e);exact Zc.setCell (p:=⟨w.heap.size,1,none⟩) kg (λ _=>.inl rfl) _
       have P7:Hid (∀ (gg cap' : Nat) (w8:World) (vs' : Nat->Value),LS w w8 (.slice ro L.length rc) (.slice ao a.length ac) (.slice bo b.length bc) vs' va (tri (T.take (m+1)) [] []) (KA L J m)->Row (w.heap.size+2) w8 (.slice go n gc) ((Zm L J m).map (λ k:Nat=>(k:Int)))->(∀ q,(Value.slice go n gc).ownBlock=some q->va.ownBlock≠some q∧∀ i,i<3->(vs' i).ownBlock≠some q)->∃ cs vO vC,va=.slice vO m vC∧w8.ownsRow (w.heap.size+2) 32 1 (.slice vO m vC) m cs∧∀ (gg cap' : Nat) (w9:World),w9.ownsRow (w.heap.size+2) 32 1 (.slice (some ⟨gg,0,none⟩) (m+1) cap') (m+1) (cs ++ [.slice go n gc])->(w8.alloc (.cells #[.slice go n gc] 32)).grownBy w9 (Value.slice vO m vC).ownBlock->((Value.slice vO m vC).ownBlock=some gg∨gg=(w8.alloc (.cells #[.slice go n gc] 32)).heap.size)->LS w (w9.setCell ⟨w.heap.size,2,none⟩ (.slice (some ⟨gg,0,none⟩) (m+1) cap')) (.slice ro L.length rc) (.slice ao a.length ac) (.slice bo b.length bc) vs' (.slice (some ⟨gg,0,none⟩) (m+1) cap') (tri (T.take (m+1)) [] []) (KA L J (m+1))∧w9.cell? ⟨w.heap.size,2,none⟩=some va∧w9.frozen? ⟨w.heap.size,2,none⟩=false):=by
        intro _ _ w8 vs' h1 h2 h3;obtain ⟨cs,hcs1,_⟩:=h1.fam.ar;rw [Zlo] at hcs1;obtain ⟨vO,vC,hva⟩:=Zf hcs1;refine ⟨cs,vO,vC,hva,hva ▸ hcs1,?_⟩;intro gg cap' w9 q1 q2 q3;rw [Zqk];rw [<- hva] at q2 q3;have kd:Za w8 (w8.alloc (.cells #[.slice go n gc] 32)):=Zc.alloc (Zc.refl _ w8) _;exact h1.more (Zlo _ _ _) h2 h3 hcs1 kd q1 q2 q3 kd.size
       have hrow8:Hid (∀ w8,Zc (λ q=>q=w.heap.size∨(vs 0).ownBlock=some q) wr w8->Row (w.heap.size+2) w8 (.slice go n gc) ((Zm L J m).map (λ k:Nat=>(k:Int)))):=by
        intro w8 hk8;refine (hk8.row (Yi hr6 HV.out.1) (λ q e=>?_));have:=Xd hr6 e;rintro (f | f)
        ·have:=HV.out.1;omega
        ·exact (HV.out.2 q this).2 0 (by omega) f
       have hX6:=hb.same hL6.kept;obtain ⟨xb,xof,hxo,hx1,hx2⟩:=hX6.get hlt;rw [<- HTM.out,hz] at hx2;rw [hxo] at c6
       have c1a:(wr.alloc (.cells #[.int .i64 z] 3)).drew.cell? ⟨w.heap.size,1,none⟩=some (.slice to' m tcap):=by
        have:=(hL6.same (Zc.drew (Zc.alloc (Zc.refl _ wr) (.cells #[.int .i64 z] 3)))).cells.1;rw [this,hv0]
       have VA:Hid (∀ gg,(∀ q,(Value.slice go n gc).ownBlock=some q->q≠gg)->∀ (cap' q:Nat),(Value.slice go n gc).ownBlock=some q->va.ownBlock≠some q∧∀ i,i<3->((λ j=>if j=0 then Value.slice (some ⟨gg,0,none⟩) (m+1) cap' else vs j) i).ownBlock≠some q):=by
        intro gg hf cap' q e;obtain ⟨x1,x2⟩:=HV.out.2 q (Xd hr6 e);refine ⟨x1,λ i hi=>?_⟩
        by_cases ei:i=0
        ·simp only [ei,if_true,Value.ownBlock]
         intro f;simp only [Option.some.injEq] at f;exact hf q e f.symm
        ·simp only [ei,if_false];exact x2 i hi
       clear hL6 hXr hX6 hLS hr5 hr6 hl0 hv0 hxo hke
       go_upto_region 16 with fail
       go_cut [] from 70 to 85 (λ wc=>∃ gg cap', LS w wc (.slice ro L.length rc) (.slice ao a.length ac) (.slice bo b.length bc) (λ j=>if j=0 then .slice (some ⟨gg,0,none⟩) (m+1) cap' else vs j) va (tri (T.take (m+1)) [] []) (KA L J m)∧Zc (λ q=>q=w.heap.size∨(vs 0).ownBlock=some q) wr wc∧∀ q,(Value.slice go n gc).ownBlock=some q->q≠gg)
       case first=>
        clear P7 VA hrow8
        go_region_law (refine step_append_lies _ (by rfl) _ _ 32 (by rfl) (w.heap.size+2) 3 i0 _ 1 8 Tryz.underlying32 hi0 hz0 hz1 hz2 rfl (by omega) (.slice to' m tcap) m (iv (T.take m)) (by rfl) ((hrow0.alloc _).drew) ⟨wr.heap.size,0,none⟩ 1 1 [.int .i64 z] (by rfl) (by rfl) (World.news_of_block (cs:=#[.int .i64 z]) (t:=3) (fr:=(0,0)) (heap_alloc_new wr _)) (by simp [Value.oneCell']) (by omega) hn1 hn2 hb9 _ rfl ?_;intro gg cap' w9 hown hgrow hat hlt9;obtain ⟨p1,p2,p3,p4,p5⟩:=PE.out gg cap' w9 hown hgrow hat)
        all_goals
         go_wp2_with fail
         go_meet;exact ⟨gg,cap', p1,p4,p5⟩
       case rest=>
        obtain ⟨gg,cap', hL7,hK7,hf7⟩:=hcut;obtain ⟨cs,vO,vC,hva,hrow8', P8⟩:=P7.out 0 0 wc _ hL7 (hrow8.out wc hK7) (VA.out gg hf7 cap');clear P7 VA hrow8 PE c1a hrow0 hb9 c1 c2 c3 c4 c5 c6 c7;obtain ⟨c1,c2,c3,c4,c5,c6,c7⟩:=hL7.cells;rw [hva] at c2;have PE:Hid (∀ (gg cap' : Nat) (w9:World),w9.ownsRow (w.heap.size+2) 32 1 (.slice (some ⟨gg,0,none⟩) (m+1) cap') (m+1) (cs ++ [.slice go n gc])->(wc.alloc (.cells #[.slice go n gc] 32)).grownBy w9 (Value.slice vO m vC).ownBlock->((Value.slice vO m vC).ownBlock=some gg∨gg=(wc.alloc (.cells #[.slice go n gc] 32)).heap.size)->_):=P8
        have hb9:w.heap.size+2<=(wc.alloc (.cells #[.slice go n gc] 32)).heap.size:=by
         rw [World.size_alloc];have:=hL7.big;omega
        have hn3:(m+1) * 24<=140737488355328:=by omega
        clear P8 hL7 hK7 hva
        go_wp2_with (first | (at_builtin;refine wpList_append_lies _ rfl _ _ 48 rfl (w.heap.size+2) 32 j0 _ 1 24 Tryz.underlying48 hj0 hy0 hy1 hy2 rfl (by omega) (.slice vO m vC) m cs rfl (hrow8'.alloc _) ⟨wc.heap.size,0,none⟩ 1 1 [.slice go n gc] rfl rfl (World.news_of_block (cs:=#[.slice go n gc]) (t:=32) (fr:=(0,0)) (heap_alloc_new wc _)) (by simp [Value.oneCell']) (by omega) hn1 hn3 hb9 _ rfl ?_;intro gg' cap'' w9 hown hgrow hat hlt9;obtain ⟨p1,p2,p3⟩:=PE.out gg' cap'' w9 hown hgrow hat))
        go_roundw
        case rel=>
         refine ⟨i+1,by omega,by omega,(λ j=>if j=0 then .slice (some ⟨gg,0,none⟩) (m+1) cap' else vs j),.slice (some ⟨gg', 0,none⟩) (m+1) cap'', ?_⟩
         first | (rw [show a.length+(i+1)=m+1 by omega];exact p1) | (rw [show i+1=m+1 by omega];exact p1)
        case measure=>simp [intOf];omega
    ·have hie:i=b.length:=by omega
     have q2:¬ (i:Int)<(b.length:Int):=by omega
     have hL8:LS w wr (.slice ro L.length rc) (.slice ao a.length ac) (.slice bo b.length bc) vs va (tri (T.take (if 1+1=0 then 0 else if 1+1=1 then a.length else N)) [] []) (KA L J (if 1+1=0 then 0 else if 1+1=1 then a.length else N)):=by
      have e1:(if 1+1=0 then 0 else if 1+1=1 then a.length else N)=a.length+i:=by have:=HT.out.2;simp;omega
      rw [e1];exact hLS
     clear hLS
     go_wp2_with fail
     go_roundw
     case rel=>first | exact ⟨1+1,vs,va,by go_num,by omega,hL8⟩ | exact ⟨1+1,by first | rfl | omega | simp,by omega,vs,va,hL8⟩
     case measure=>simp [intOf]
  ·obtain ⟨c1,c2,c3,c4,c5,c6,c7⟩:=hLS.cells
   have hL9:LS w wr (.slice ro L.length rc) (.slice ao a.length ac) (.slice bo b.length bc) vs va (tri T [] []) (KA L J N):=by
    have e1:T.take N=T:=by rw [<- hTl,List.take_length]
    have:=hLS;simp only [show ¬ (2:Nat)=0 by omega,show ¬ (2:Nat)=1 by omega,if_false,e1] at this;exact this
   clear hLS
   go_wp2_with fail
   go_loopw [17] (λ s17 wr=>∃ (i:Nat) (vs:Nat->Value),s17=.int .i64 (i:Int)∧i<=N+200∧LS w wr (.slice ro L.length rc) (.slice ao a.length ac) (.slice bo b.length bc) vs va (tri T (Kf N 0 i a.length ap T) (Zal N T i)) (KA L J N)) (λ s17 _=>N+200-(intOf s17).toNat)
   case atStart=>exact ⟨0,vs,rfl,by omega,hL9⟩
   case round=>
    clear hL9 c1 c2 c3 c4 c5 c6 c7;obtain ⟨i,vs,rfl,hi,hLS⟩:=hrel;obtain ⟨c1,c2,c3,c4,c5,c6,c7⟩:=hLS.cells
    by_cases hlt:i<N+200
    ·have z2:(i:Int)<((N+200:Nat):Int):=by omega
     have z3:(i:Int)<(N:Int)+200:=by omega
     have z1:(0:Int)<=(i:Int):=by omega
     have hn1:i+1<=maxLen:=by unfold maxLen;omega
     have hn2:(i+1) * 8<=140737488355328:=by omega
     obtain ⟨uo,uc,hu,hrowU,hb9,PU⟩:=hLS.pe (i:=1) (s:=3) (by omega) rfl (l:=i) (z:=(i:Int)) (xs' := tri T (Kf N 0 (i+1) a.length ap T) (Zal N T i)) (by show (Kf N 0 i a.length ap T).length=i;exact K9 _ _ _ _ _ _) (by show Kf N 0 (i+1) a.length ap T=Kf N 0 i a.length ap T ++ [(i:Int)];exact Zq1 _ _ _ _ _) Zj2;rw [hu] at c3
     go_upto_region 22 with (first | (at_builtin;refine wpList_append_lies _ rfl _ _ 32 rfl (w.heap.size+2) 3 i0 _ 1 8 Tryz.underlying32 hi0 hz0 hz1 hz2 rfl (by omega) (.slice uo i uc) i (iv (tri T (Kf N 0 i a.length ap T) (Zal N T i) 1)) rfl (hrowU.alloc _) ⟨wr.heap.size,0,none⟩ 1 1 [.int .i64 (i:Int)] rfl rfl (World.news_of_block (cs:=#[.int .i64 (i:Int)]) (t:=3) (fr:=(0,0)) (heap_alloc_new wr _)) (by simp [Value.oneCell']) (by omega) hn1 hn2 hb9 _ rfl ?_;intro gg cap' w9 hown hgrow hat hlt9;obtain ⟨p1,p2,p3⟩:=PU.out gg cap' w9 hown hgrow hat))
     obtain ⟨w2,hw2⟩:∃ w2,w9.setCell ⟨w.heap.size,3,none⟩ (.slice (some ⟨gg,0,none⟩) (i+1) cap')=w2:=⟨_,rfl⟩;rw [hw2] at p1 ⊢;obtain ⟨vs2,hL2⟩:∃ vs2,LS w w2 (.slice ro L.length rc) (.slice ao a.length ac) (.slice bo b.length bc) vs2 va (tri T (Kf N 0 (i+1) a.length ap T) (Zal N T i)) (KA L J N):=⟨_,p1⟩;clear PU p1 p2 p3 hw2 hown hgrow hat hlt9 hu hrowU hb9 hLS c1 c2 c3 c4 c5 c6 c7;obtain ⟨c1,c2,c3,c4,c5,c6,c7⟩:=hL2.cells
     by_cases hiN:i<N
     ·obtain ⟨tb,tc,ht1,ht2,ht3⟩:=hL2.fam.form (i:=0) (n:=N) (by omega) hTl (by omega)
      rw [ht1] at c1;have tcl:w2.cell? ⟨tb,i,none⟩=some (.int .i64 (at' T (i:Nat))):=(ht2.cell hiN).1;obtain ⟨x,hx⟩:∃ x,at' T (i:Nat)=x:=⟨_,rfl⟩;rw [hx] at tcl;have HX:Hid (at' T (i:Nat)=x):=hx;clear hx ht2;have y1:(i:Int)<(N:Int):=by omega
      by_cases hx0:0<=x
      ·have ip:¬ x<0:=by omega
       obtain ⟨to', tc', hr', hrowR,hb9', PR⟩:=hL2.pe (i:=2) (s:=4) (by omega) rfl (l:=i) (z:=(i:Int)) (xs' := tri T (Kf N 0 (i+1) a.length ap T) (Zal N T (i+1))) (by show (Zal N T i).length=i;exact Zbh _ _ _) (by show Zal N T (i+1)=Zal N T i ++ [(i:Int)];rw [Zeb];congr 2;unfold Ze7;rw [HX.out,if_pos ⟨hiN,hx0⟩]) Zjz;rw [hr'] at c4
       
       clear hL2
       go_wp2_with (first | (at_builtin;refine wpList_append_lies _ rfl _ _ 32 rfl (w.heap.size+2) 3 i0 _ 1 8 Tryz.underlying32 hi0 hz0 hz1 hz2 rfl (by omega) (.slice to' i tc') i (iv (tri T (Kf N 0 (i+1) a.length ap T) (Zal N T i) 2)) rfl (hrowR.alloc _) ⟨w2.heap.size,0,none⟩ 1 1 [.int .i64 ((i:Int))] rfl rfl (World.news_of_block (cs:=#[.int .i64 ((i:Int))]) (t:=3) (fr:=(0,0)) (heap_alloc_new w2 _)) (by simp [Value.oneCell']) (by omega) hn1 hn2 hb9' _ rfl ?_;intro gg' cap'' w9' hown' hgrow' hat' hlt9'; obtain ⟨p1', p2', p3'⟩:=PR.out gg' cap'' w9' hown' hgrow' hat'))
       go_roundw
       case rel=>first | exact ⟨i+1,by omega,by omega,_,p1'⟩ | exact ⟨i+1,_,by go_num,by omega,p1'⟩
       case measure=>simp [intOf];omega
      ·have ip:x<0:=by omega
       obtain ⟨to', tc', hr', hrowR,hb9', PR⟩:=hL2.pe (i:=2) (s:=4) (by omega) rfl (l:=i) (z:=-1) (xs' := tri T (Kf N 0 (i+1) a.length ap T) (Zal N T (i+1))) (by show (Zal N T i).length=i;exact Zbh _ _ _) (by show Zal N T (i+1)=Zal N T i ++ [-1];rw [Zeb];congr 2;unfold Ze7;rw [HX.out,if_neg (λ f=>hx0 f.2)]) Zjz;rw [hr'] at c4
       
       clear hL2
       go_wp2_with (first | (at_builtin;refine wpList_append_lies _ rfl _ _ 32 rfl (w.heap.size+2) 3 i0 _ 1 8 Tryz.underlying32 hi0 hz0 hz1 hz2 rfl (by omega) (.slice to' i tc') i (iv (tri T (Kf N 0 (i+1) a.length ap T) (Zal N T i) 2)) rfl (hrowR.alloc _) ⟨w2.heap.size,0,none⟩ 1 1 [.int .i64 (-1)] rfl rfl (World.news_of_block (cs:=#[.int .i64 (-1)]) (t:=3) (fr:=(0,0)) (heap_alloc_new w2 _)) (by simp [Value.oneCell']) (by omega) hn1 hn2 hb9' _ rfl ?_;intro gg' cap'' w9' hown' hgrow' hat' hlt9'; obtain ⟨p1', p2', p3'⟩:=PR.out gg' cap'' w9' hown' hgrow' hat'))
       go_roundw
       case rel=>first | exact ⟨i+1,by omega,by omega,_,p1'⟩ | exact ⟨i+1,_,by go_num,by omega,p1'⟩
       case measure=>simp [intOf];omega
     ·have y1:¬ (i:Int)<(N:Int):=by omega
      obtain ⟨to', tc', hr', hrowR,hb9', PR⟩:=hL2.pe (i:=2) (s:=4) (by omega) rfl (l:=i) (z:=-1) (xs' := tri T (Kf N 0 (i+1) a.length ap T) (Zal N T (i+1))) (by show (Zal N T i).length=i;exact Zbh _ _ _) (by show Zal N T (i+1)=Zal N T i ++ [-1];rw [Zeb];congr 2;unfold Ze7;rw [if_neg (λ f=>hiN f.1)]) Zjz;rw [hr'] at c4
      
      clear hL2
      go_wp2_with (first | (at_builtin;refine wpList_append_lies _ rfl _ _ 32 rfl (w.heap.size+2) 3 i0 _ 1 8 Tryz.underlying32 hi0 hz0 hz1 hz2 rfl (by omega) (.slice to' i tc') i (iv (tri T (Kf N 0 (i+1) a.length ap T) (Zal N T i) 2)) rfl (hrowR.alloc _) ⟨w2.heap.size,0,none⟩ 1 1 [.int .i64 (-1)] rfl rfl (World.news_of_block (cs:=#[.int .i64 (-1)]) (t:=3) (fr:=(0,0)) (heap_alloc_new w2 _)) (by simp [Value.oneCell']) (by omega) hn1 hn2 hb9' _ rfl ?_;intro gg' cap'' w9' hown' hgrow' hat' hlt9'; obtain ⟨p1', p2', p3'⟩:=PR.out gg' cap'' w9' hown' hgrow' hat'))
      go_roundw
      case rel=>first | exact ⟨i+1,by omega,by omega,_,p1'⟩ | exact ⟨i+1,_,by go_num,by omega,p1'⟩
      case measure=>simp [intOf];omega
    ·have hie:i=N+200:=by omega
     have z2:¬ (i:Int)<((N+200:Nat):Int):=by omega
     have z3:¬ (i:Int)<(N:Int)+200:=by omega
     have hL3:LS w wr (.slice ro L.length rc) (.slice ao a.length ac) (.slice bo b.length bc) vs va (tri T (Kf N 0 (N+200) a.length ap T) (Zal N T (N+200))) (KA L J N):=by rw [<- hie];exact hLS
     clear hLS hie hi
     go_wp2_with fail
     have hL4:LS w wr (.slice ro L.length rc) (.slice ao a.length ac) (.slice bo b.length bc) vs va (tri T (Kf N 0 (N+200) a.length ap T) (Zal N T (N+200))) (KA L J N):=hL3
     go_loopw [18] (λ s18 wr=>∃ i:Nat,s18=.int .i64 (i:Int)∧i<=N∧LS w wr (.slice ro L.length rc) (.slice ao a.length ac) (.slice bo b.length bc) vs va (tri T (Kf N i (N+200) a.length ap T) (Zal N T (N+200))) (KA L J N)) (λ s18 _=>N-(intOf s18).toNat)
     case atStart=>exact ⟨0,rfl,by omega,hL4⟩
     case round=>
      clear hL3 hL4 c1 c2 c3 c4 c5 c6 c7;obtain ⟨i,rfl,hi,hLS⟩:=hrel;obtain ⟨c1,c2,c3,c4,c5,c6,c7⟩:=hLS.cells
      by_cases hiN:i<N
      ·obtain ⟨tb,tc,ht1,ht2,ht3⟩:=hLS.fam.form (i:=0) (n:=N) (by omega) hTl (by omega)
       obtain ⟨ub,uc,hu1,hu2,hu3⟩:=hLS.fam.form (i:=1) (n:=N+200) (by omega) (by exact K9 _ _ _ _ _ _) (by omega);rw [ht1] at c1;rw [hu1] at c3;have tcl:wr.cell? ⟨tb,i,none⟩=some (.int .i64 (at' T (i:Nat))):=(ht2.cell hiN).1;obtain ⟨ucl,ufr⟩:=hu2.cell (i:=i) (by omega);have hlo:=HLOW.out i hiN;obtain ⟨x,hx⟩:∃ x,at' T (i:Nat)=x:=⟨_,rfl⟩;rw [hx] at tcl hlo;have HX:Hid (at' T (i:Nat)=x):=hx;clear hx ht2 hu2;have y1:(i:Int)<(N:Int):=by omega
       have z1:(0:Int)<=(i:Int):=by omega
       have z2:(i:Int)<((N+200:Nat):Int):=by omega
       have z3:(i:Int)<(N:Int)+200:=by omega
       by_cases hx0:x<0
       ·obtain ⟨n,hn⟩:∃ n:Nat,x = -(n:Int)-1:=⟨(-x-1).toNat,by omega⟩
        subst hn;have hn98:n<=98:=by omega
        have hnI:(n:Int)<=98:=by omega
        by_cases hia:a.length<=i
        ·have y2:(a.length:Int)<=(i:Int):=by omega
         have hvn:up0 ap N a.length T i=Zoc ap N 1 (-(n:Int)-1):=by
          unfold up0;rw [HX.out,if_pos ⟨hiN,by omega⟩,if_pos hia]
         obtain ⟨V,hV⟩:∃ V,Zoc ap N 1 (-(n:Int)-1)=V:=⟨_,rfl⟩
         have cV:∀ y z:Int,y=1->z=(n:Int)->Calls Tryz.prog 184 #[.int .i64 (N:Int),.bool ap,.int .i64 y,.int .i64 z] wr.drew λ e w' => e=.returned (.int .i64 (V:Int))∧w' = wr.drew:=by
          intro y z ey ez;subst ey;subst ez;have:=Zcr wr.drew N 1 ap n (by omega) (by omega) hn98;rw [hV] at this;exact this
         have hL5:LS w (wr.drew.setCell ⟨ub,i,none⟩ (.int .i64 (V:Int))) (.slice ro L.length rc) (.slice ao a.length ac) (.slice bo b.length bc) vs va (tri T (Kf N (i+1) (N+200) a.length ap T) (Zal N T (N+200))) (KA L J N):=by
          have hd:=hLS.same (Zc.drew (Zc.refl (λ _=>False) wr));refine hd.put (i:=1) (by omega) hu1 (by exact K9 _ _ _ _ _ _) ?_ Zj2;show Kf N (i+1) (N+200) a.length ap T=(Kf N i (N+200) a.length ap T).set i (V:Int);rw [Zk3 _ _ _ _ _ _ (by omega),hvn,hV]
         clear hV hvn hLS
         go_upto_region 32 with fail
         go_region_with (go_at_call 184;refine (cV _ _ (by first | rfl | omega | simp) (Zhg hn98)).mono ?_;rintro e w6 ⟨rfl,rfl⟩)
         all_goals
          go_wp2_with fail
          go_roundw
          case rel=>first | exact ⟨i+1,by omega,by omega,hL5⟩ | exact ⟨i+1,by go_num,by omega,hL5⟩
          case measure=>simp [intOf];omega
        ·have y2:¬ (a.length:Int)<=(i:Int):=by omega
         have hvn:up0 ap N a.length T i=Zoc ap N 0 (-(n:Int)-1):=by
          unfold up0;rw [HX.out,if_pos ⟨hiN,by omega⟩,if_neg hia]
         obtain ⟨V,hV⟩:∃ V,Zoc ap N 0 (-(n:Int)-1)=V:=⟨_,rfl⟩
         have cV:∀ y z:Int,y=0->z=(n:Int)->Calls Tryz.prog 184 #[.int .i64 (N:Int),.bool ap,.int .i64 y,.int .i64 z] wr.drew λ e w' => e=.returned (.int .i64 (V:Int))∧w' = wr.drew:=by
          intro y z ey ez;subst ey;subst ez;have:=Zcr wr.drew N 0 ap n (by omega) (by omega) hn98;rw [hV] at this;exact this
         have hL5:LS w (wr.drew.setCell ⟨ub,i,none⟩ (.int .i64 (V:Int))) (.slice ro L.length rc) (.slice ao a.length ac) (.slice bo b.length bc) vs va (tri T (Kf N (i+1) (N+200) a.length ap T) (Zal N T (N+200))) (KA L J N):=by
          have hd:=hLS.same (Zc.drew (Zc.refl (λ _=>False) wr));refine hd.put (i:=1) (by omega) hu1 (by exact K9 _ _ _ _ _ _) ?_ Zj2;show Kf N (i+1) (N+200) a.length ap T=(Kf N i (N+200) a.length ap T).set i (V:Int);rw [Zk3 _ _ _ _ _ _ (by omega),hvn,hV]
         clear hV hvn hLS
         go_upto_region 32 with fail
         go_region_with (go_at_call 184;refine (cV _ _ (by first | rfl | omega | simp) (Zhg hn98)).mono ?_;rintro e w6 ⟨rfl,rfl⟩)
         all_goals
          go_wp2_with fail
          go_roundw
          case rel=>first | exact ⟨i+1,by omega,by omega,hL5⟩ | exact ⟨i+1,by go_num,by omega,hL5⟩
          case measure=>simp [intOf];omega
       ·have hL5:LS w wr (.slice ro L.length rc) (.slice ao a.length ac) (.slice bo b.length bc) vs va (tri T (Kf N (i+1) (N+200) a.length ap T) (Zal N T (N+200))) (KA L J N):=by
         rw [Zoi _ _ _ _ _ _ (by unfold up0;rw [HX.out,if_neg (λ f=>hx0 f.2)])];exact hLS
        clear hLS
        by_cases hia:a.length<=i
        ·have y2:(a.length:Int)<=(i:Int):=by omega
         go_wp2_with fail
         go_roundw
         case rel=>first | exact ⟨i+1,by omega,by omega,hL5⟩ | exact ⟨i+1,by go_num,by omega,hL5⟩
         case measure=>simp [intOf];omega
        ·have y2:¬ (a.length:Int)<=(i:Int):=by omega
         go_wp2_with fail
         go_roundw
         case rel=>first | exact ⟨i+1,by omega,by omega,hL5⟩ | exact ⟨i+1,by go_num,by omega,hL5⟩
         case measure=>simp [intOf];omega
      ·have hie:i=N:=by omega
       have y1:¬ (i:Int)<(N:Int):=by omega
       have FIN:Hid (Zkr w L ap a b (.returned (.pointer (some ⟨w.heap.size,0,none⟩))) wr):=by
        rw [HLM.out]
        obtain ⟨B,g1,g2,g3,g4,g5⟩:=hLS.net (up:=up0 ap N a.length T) (rep:=Ze7 N T) hJl hTl HPOS.out (K9 _ _ _ _ _ _) (Zbh _ _ _) (λ k hk=>by
         rw [Zu5 _ _ _ _ _ _ _ hk,hie]
         by_cases f:k<N
         ·rw [if_pos f]
         ·rw [if_neg f];unfold up0;rw [if_neg (λ q=>f q.1)]) (λ k hk=>Zux _ _ _ _ hk)
        exact ⟨B,by rw [g1],g2,g3,hLS.kept,g4,g5⟩
       clear hLS hie hi
       go_wp2_with fail
       go_returns
       exact FIN.out
end
end Go.Proofs.YtjahpnbijefncaaGreat
