import Derived.WalkKit
import Derived.Test.YtmjgnfkbnofjoaaGreatDoorRN13
namespace Go.Proofs.YtmjgnfkbnofjoaaGreatDoor
open Go.Proofs.Tryz
set_option maxRecDepth 100000
set_option linter.unusedVariables false
set_option maxHeartbeats 32000000
variable {z:Int} {ws:List (Int × Int)} {U p r ts:List Int} {R l:List Ru} {L:List Sym} {D b bs k lc m n q x:Nat} {B S:Nat->Prop} {lo ro sp:Option Addr} {s:St9} {ev ev' lv v:Value} {W X a w w' w1 w2:World}
section
open Go.RowKit
attribute [local go_sem ↓] Go.wp_at_zero Go.wp_at_succ
def Zyn (n:Nat):Prop:=∀ (B:Nat->Prop) (w:World) (tb:Nat) (v:Value) (t:Tr n) (s:St9),Kv B w tb s->(∀ b,B b->b<w.heap.size)->CsB B w n v t->s.1.length+s.2.length+Zdb n t<=1000000000000 ->
 Calls prog 86 #[.pointer (some ⟨tb,0,none⟩),v] w λ e w' => (∃ u,e=.returned u)∧Kv B w' tb (Jz n t s)∧Zc (λ k=>¬ B k) w w'
theorem KeptB.trans {b c:World} (h:Zc (λ k=>¬ B k) a b) (k:Zc (λ k=>¬ B k) b c):Zc (λ k=>¬ B k) a c:=Zc.trans h k (λ _ _ e=>e)
theorem KeptB.of {b:World} (h:Za a b):Zc (λ k=>¬ B k) a b:=Zc.mono h (λ _ _ f=>f.elim)
theorem KeptB.cs {B':Nat->Prop} (hk:Zc (λ k=>¬ B k) w w') (hB:∀ b,B' b->B b) {t:Tr n} (h:CsB B' w n v t):CsB B' w' n v t:=CsB.kept hk (λ b q r=>r (hB b q)) h
def Zns (n:Nat):Prop:=∀ (B:Nat->Prop) (w:World) (tb:Nat) (k r:Int) (p:List Int) (l:List (Int × Tr n)) (v:Value) (s:St9),Kv B w tb s->(∀ b,B b->b<w.heap.size)->CsB B w (n+1) v (k,r,p,l)->s.1.length+s.2.length+(3+l.length+Zc1 (l.map (λ x=>Zdb n x.2)))<=1000000000000 ->
 Calls prog 126 #[.pointer (some ⟨tb,0,none⟩),v] w λ e w' => (∃ u,e=.returned u)∧Kv B w' tb (Kp (Jz n) l (s.1.length+1) (Xp p (l.map (λ x=>x.1)) s))∧Zc (λ k=>¬ B k) w w'
def Xk (p:List Int) (ks:List Int) (s:St9):St9:=(s.1 ++ [(1,(s.2.length:Int),0)]++ks.map (λ k=>((2,k,0):I3)),s.2 ++ [p])
theorem Zdq (p ks:List Int) (s:St9):(Xk p ks s).1.length=s.1.length+1+ks.length∧(Xk p ks s).2.length=s.2.length+1:=by simp [Xk];omega
theorem Zf1 (p ks:List Int) (k:Int) (s:St9):Xk p (ks ++ [k]) s=((Xk p ks s).1 ++ [(2,k,0)],(Xk p ks s).2):=by simp [Xk]
theorem Zi9 (p ks:List Int) (s:St9):Xp p ks s=((Xk p ks s).1 ++ [(3,0,0)],(Xk p ks s).2):=rfl
theorem Zjj {l:List (Int × Tr n)} (hk:k<l.length) (c:Nat) (s:St9):Kp (Jz n) (l.take (k+1)) c s=Jz n l[k].2 (setB (Kp (Jz n) (l.take k) c s).1 (c+k) ((Kp (Jz n) (l.take k) c s).1.length:Int),(Kp (Jz n) (l.take k) c s).2):=by
 rw [List.take_add_one,List.getElem?_eq_getElem hk];simp only [Option.toList_some];rw [Zit,List.length_take,Nat.min_eq_left (Nat.le_of_lt hk)]
theorem Ztl (l:List (Int × Tr n)) (c:Nat) (s:St9):(Kp (Jz n) l c s).1.length+(Kp (Jz n) l c s).2.length<=s.1.length+s.2.length+Zc1 (l.map (λ x=>Zdb n x.2))∧s.1.length<=(Kp (Jz n) l c s).1.length:=by
 obtain ⟨a,b,_⟩:=Zhs (f:=Jz n) (g:=Zdb n) l c s (λ x _ s=>Znr n x.2 s);exact ⟨a,b⟩
theorem Zia {l:List (Int × Tr n)} (hk:k<l.length):Zc1 ((l.take k).map (λ x=>Zdb n x.2))+Zdb n l[k].2<=Zc1 (l.map (λ x=>Zdb n x.2)):=by
 have e:l=l.take k ++ [l[k]]++l.drop (k+1):=by
  rw [List.append_assoc,List.singleton_append,List.getElem_cons_drop,List.take_append_drop]
 have e2:Zc1 (l.map (λ x=>Zdb n x.2))=Zc1 ((l.take k ++ [l[k]]++l.drop (k+1)).map (λ x=>Zdb n x.2)):=by rw [<- e]
 rw [e2,List.map_append,List.map_append,Zbb,Zbb];simp only [List.map_cons,List.map_nil,Zc1];omega
theorem Zn0 {k r:Int} {l:List (Int × Tr n)} {po ko:Option Addr} {pc kc:Nat} (h:CsB B w (n+1) (.agg #[.int .i64 k,.int .i64 r,.slice po p.length pc,.slice ko l.length kc]) (k,r,p,l)) {i:Nat} (hi:i<l.length):∃ b off tk tr tpo tpl tpc tko tkl tkc,ko=some ⟨b,off,none⟩∧w.cell? ⟨b,off+i * 5,none⟩=some (.int .i64 l[i].1)∧w.cell? ⟨b,off+i * 5+1,none⟩=some (.int .i64 tk)∧w.cell? ⟨b,off+i * 5+2,none⟩=some (.int .i64 tr)∧w.cell? ⟨b,off+i * 5+3,none⟩=some (.slice tpo tpl tpc)∧w.cell? ⟨b,off+i * 5+4,none⟩=some (.slice tko tkl tkc)∧CsB B w n (.agg #[.int .i64 tk,.int .i64 tr,.slice tpo tpl tpc,.slice tko tkl tkc]) l[i].2:=by
 obtain ⟨po', pc', ko', kc', e,h1,h2,h3,h4,h5⟩:=h;simp only [Value.agg.injEq,Array.mk.injEq,List.cons.injEq,Value.slice.injEq,true_and,and_true] at e;obtain ⟨⟨rfl,rfl⟩,rfl,rfl⟩:=e
 rcases h5 with rfl | ⟨b,off,rfl,hb,hl,hc⟩
 ·simp at hi
 ·obtain ⟨c0,c1,c2,c3,q0,q1,q2,q3,q4,q5⟩:=hc i hi
  obtain ⟨tk,tr,tpo,tpl,tpc,tko,tkl,tkc,e⟩:=q5.shape;simp only [Value.agg.injEq,Array.mk.injEq,List.cons.injEq,and_true] at e;obtain ⟨rfl,rfl,rfl,rfl⟩:=e;exact ⟨b,off,tk,tr,tpo,tpl,tpc,tko,tkl,tkc,rfl,q0,q1,q2,q3,q4,q5⟩
def Yf (st:List (Nat × Nat)):List Int:=ofN (st.reverse.map Prod.fst)
theorem Zbe (st:List (Nat × Nat)):(Yf st).length=st.length:=by simp [Yf,ofN]
theorem Zf6 (L:List Sym) (t:List Int) (k:Nat) (hk:k<=t.length):(way L t k).length<=k:=by
 induction k with
 | zero=>simp [way,run]
 | succ k ih=>
  rw [Zg5 (by omega)];have:=Zli (way L t k) (arN L (t[k]'(by omega)));have:=ih (by omega);omega
def pathA (L:List Sym) (t:List Int) (a:Int):List Int:=if Zz L t a=0 then Yf (way L t a.toNat) else []
def idxG:List Int->Nat->Int->Int
 | [],_,_=>-1
 | x :: r,i,y=>if y=x then (i:Int) else idxG r (i+1) y
def idxI (t:List Int) (y:Int):Int:=idxG t 0 y
def partP (L:List Sym) (left:List Int) (x:Int):Int × List Int:=if 0<=x then (x,[]) else (-1,pathA L left (idxI left x))
end
section
open Go.RowKit Go.Shelf
def partsL (L:List Sym) (x:Ru):List (Int × List Int):=x.2.map (partP L x.1)
def Zsn (L:List Sym) (R:List Ru):List (List (Int × List Int)):=R.map (partsL L)
def PtC (base:Nat) (W:World) (g k:Nat) (Q:List (Int × List Int)):Prop:=
 ∃ cur,W.heap[g]? = some (.cells cur 105 (0,0))∧cur.size=Q.length * 2∧∀ i (h:i<Q.length),i<k->∃ ao ac,cur[i * 2]? = some (.int .i64 Q[i].1)∧cur[i * 2+1]? = some (.slice ao Q[i].2.length ac)∧Js W ao Q[i].2 ac∧∀ a,ao=some a->base<=a.block
def RtC (base:Nat) (W:World) (cs:List Value) (Q:List (List (Int × List Int))):Prop:=
 cs.length=Q.length∧∀ i (h:i<Q.length),∃ g gc,cs[i]? = some (.slice (some ⟨g,0,none⟩) Q[i].length gc)∧base<=g∧PtC base W g Q[i].length Q[i]
structure RgJ (L:List Sym) (R:List Ru) (w:World) (bs k:Nat) (W:World):Prop where
 same:Za w W
 bx:W.heap[w.heap.size]? = some (.cells #[.pointer (some ⟨bs,0,none⟩)] 41 (0,0))
 row:∃ v cs,W.heap[w.heap.size+1]? = some (.cells #[v] 52 (0,0))∧W.ownsRow w.heap.size 103 1 v k cs∧RtC w.heap.size W cs (Zsn L (R.take k))
theorem Xd {l:Nat} {o' : Obj}:Zc (λ k=>k=l) X (X.putObj l o'):=⟨rfl,rfl,rfl,by simp,λ k _ hn=>World.putObj_heap_other hn⟩
theorem Jq {base size:Nat} {T:TypeId} {vs:List Value} (h:w.ownsRow base T size v n vs) (hq:v.ownBlock=some q):base<=q:=by
 rcases h.2 with ⟨rfl,_⟩ | ⟨g,cap,cur,rfl,hb,_⟩
 ·simp [Value.ownBlock] at hq
 ·simp only [Value.ownBlock,Option.some.injEq] at hq;omega
theorem Rnd.of {B:Nat} {W':World} (h:Zc S W W') (hc:∀ k,S k->∃ cur t fr,W.heap[k]? = some (.cells cur t fr)) (hB:∀ k,k<B->¬ S k) (hBW:B<=W.heap.size):Rnd D B W W' :=
 ⟨⟨h.size,λ k o _ hk ho=>h.at hk (λ s=>by obtain ⟨cur,t,fr,e⟩:=hc k s;rw [hk] at e;cases e;cases ho)⟩,h.below hBW hB⟩
end
section
open Go.RowKit
def NoC (w:World) (q:Nat):Prop:=∃ o,w.heap[q]? = some o∧o.isCells=false
def EnB (n eb:Nat) (ev:Value) (q:Nat):Prop:=q<n∨q=eb∨ev.ownBlock=some q
structure CpJ (L:List Sym) (R:List Ru) (w1:World) (k:Nat) (W:World):Prop where
 same:Za w1 W
 ent:∃ ev,W.heap[w1.heap.size+1]? = some (.cells #[ev] 51 (0,0))∧Row w1.heap.size W ev (Kr L R k).2∧Kv (EnB w1.heap.size (w1.heap.size+1) ev) W w1.heap.size (Kr L R k).1
end
section
open Go.RowKit Go.Shelf
attribute [local go_sem] Oper.semAt_some
def Jy (L:List Sym) (R:List Ru) (K:Nat):Prop:=∀ k,k<K->Xe L (k:Int)=true->∃ t,J4 L R k=.ok t
theorem Zn.keptC (hk:Zc S w w') (hS:∀ b,S b->∀ cs T,w.heap[b]? ≠ some (.cells cs T (0,0))):∀ {ws:List (Int × Int)} {v:Value},Zn w ws v->Zn w' ws v
 | [],_,h=>h
 | (c,p) :: r,v,h=>by
  rcases h with h | ⟨h0,b,u,h1,h2,h3⟩
  ·exact .inl h
  ·exact .inr ⟨h0,b,u,h1,hk.at h2 (λ s=>hS b s _ _ h2),Zn.keptC hk hS h3⟩
theorem Zsq {vs:List Value} (h:X6 w b bs L R lv vs) {k:Nat} (hk:Xe L (k:Int)=true->∃ t,J4 L R k=.ok t) :
  Calls prog 52 #[.pointer (some ⟨b,0,none⟩),.int .i64 (k:Int)] w λ e w' => ∃ tk tr tpo tpl tpc tko tkl tkc ev,e=.returned (.tuple #[.agg #[.int .i64 tk,.int .i64 tr,.slice tpo tpl tpc,.slice tko tkl tkc],ev])∧Hid (∀ ww,Za w' ww->Calls prog 27 #[ev,.iface 70 (.int .i64 81)] ww λ e w' => e=.returned (.bool false)∧w' = ww)∧Za w w' := by
 refine (Zji h (k:Int)).mono ?_;rintro e w' ⟨hs,hp⟩
 by_cases hd:Xe L (k:Int)=true
 ·rw [if_pos hd,Int.toNat_natCast] at hp
  obtain ⟨t,ht⟩:=hk hd;rw [ht] at hp;obtain ⟨v,rfl,hc⟩:=hp;obtain ⟨tk,tr,tpo,tpl,tpc,tko,tkl,tkc,rfl⟩:=hc.shape;exact ⟨tk,tr,tpo,tpl,tpc,tko,tkl,tkc,_,rfl,λ ww _=>X5 (ws:=[]) rfl (by simp) 81,hs⟩
 ·rw [if_neg hd] at hp
  obtain ⟨v,rfl,hf⟩:=hp;exact ⟨0,0,none,0,0,none,0,0,v,rfl,λ ww hk=>X5 (Zn.same hk hf) (by simp) 81,hs⟩
theorem Zrq {vs:List Value} (h:X6 w b bs L R lv vs) (hall:Jy L R L.length) :
  Calls prog 85 #[.pointer (some ⟨b,0,none⟩)] w λ e w' => e=.returned .nilIface∧Za w w' := by
 have hFn:∀ k,Fence.wide.fn k:=λ _=>trivial;obtain ⟨W1,hW1⟩:∃ W1,W1=(w.alloc (.cells #[.pointer (some ⟨b,0,none⟩)] 43)).alloc (.cells #[.nilIface] 46):=⟨_,rfl⟩;have KW:Za w W1:=by rw [hW1];exact ((Zc.refl _ w).alloc _).alloc _
 have ez:W1.heap.size=w.heap.size+1+1:=by rw [hW1];simp
 have BK:Hid (∀ ww,Za W1 ww->ww.heap[w.heap.size]? = some (.cells #[.pointer (some ⟨b,0,none⟩)] 43 (0,0))∧ww.heap[w.heap.size+1]? = some (.cells #[.nilIface] 46 (0,0))):=λ ww hk=>by
  have k1:Za (w.alloc (.cells #[.pointer (some ⟨b,0,none⟩)] 43)) W1:=by rw [hW1];exact Zal9
  exact ⟨hk.at0 (k1.at0 (heap_alloc_new w _)),hk.at0 (by rw [hW1];exact Zo _ _ _)⟩
 have r0:W1.cell? ⟨w.heap.size,0,none⟩=some (.pointer (some ⟨b,0,none⟩)):=Zb (BK.out W1 (Zc.refl _ _)).1 0;have CS:=(callsIn_wide (n:=8)).2 (Zbp (h.same KW));refine (callsIn_wide (n:=9)).1 ?_;refine callsIn_of_wp_marks func85 rfl trivial ?_ rfl;simp only [ntmps85,List.size_toArray,List.length_cons,List.length_nil,Nat.reduceAdd,Nat.reduceSub,Array.replicate_succ,Array.replicate_zero,List.push_toArray,List.append_toArray,List.nil_append,List.cons_append]
 gi_upto_region 1 with fail
 rw [<- hW1];clear hW1
 gi_wp2_with (first
  | (gi_at_call 47;refine CS.mono ?_;rintro e w1 ⟨bt,rfl,hbt,sv,mr,hsig,hfoot,k1'⟩)
  | (gi_at_call 23;refine (Zw5 Fence.wide _ trivial rfl _ _).mono ?_;rintro e w' ⟨rfl,rfl⟩))
 have k1:Za W1 w1:=k1';have K1:Za w w1:=KW.trans' k1;have hzw:=k1.size;obtain ⟨W0,hW0⟩:∃ W0,W0=w1.alloc (.cells #[.pointer (some ⟨bt,0,none⟩)] 41):=⟨_,rfl⟩;have K0:Za w1 W0:=by rw [hW0];exact Zal9
 have z0:W0.heap.size=w1.heap.size+1:=by rw [hW0];simp
 have b2:W0.cell? ⟨w1.heap.size,0,none⟩=some (.pointer (some ⟨bt,0,none⟩)):=by rw [hW0];exact Zb (heap_alloc_new w1 _) 0
 rw [<- hW0];clear hW0;have ST:Hid (∀ X,Za w1 X->X6 X b bs L R lv vs∧X.cell? ⟨w.heap.size,0,none⟩=some (.pointer (some ⟨b,0,none⟩))):=λ X hk=>⟨h.same (K1.trans' hk),Zb (BK.out X (k1.trans' hk)).1 0⟩
 refine Zaj rfl (by omega) (gf:=51) (lb:=#[.pointer (some ⟨w1.heap.size,0,none⟩)]) rfl trivial (enters_of func51 (by kernel_rfl) rfl) (B:=w1.heap.size) (by omega) (Zdh hsig K0 b2 (by omega)) (λ k vs W h=>by obtain ⟨_,rfl⟩:=h;rfl)
  (λ k W=>Za w1 W) (λ k X Y h hk=>h.trans' hk) (λ k X l o o' h hl ho hw=>Zc.trans h (Xd (l:=l) (o' := o')) (λ i hi e=>by have e' : i=l:=e;omega)) K0 (λ _=>False) (λ X Y h hk=>h.elim) (λ X l o o' h hl ho hw=>h.elim) ?round ?done ?stop
 case stop=>exact λ D W hD h=>h.elim
 case done=>
  rintro D W hD hj hD2;obtain ⟨g1,g2⟩:=BK.out W (k1.trans' hj);have v0:=Zb g2 0;have f0:=Zg g2 0;obtain ⟨X,hX⟩:∃ X,X=W.setCell ⟨w.heap.size+1,0,none⟩ .nilIface:=⟨_,rfl⟩;have kx:Zc (λ q=>q=w.heap.size+1) W X:=by rw [hX];exact Yh W (w.heap.size+1) 0 .nilIface
  have g3:X.heap[w.heap.size+1]? = some (.cells #[.nilIface] 46 (0,0)):=by rw [hX];exact Zt g2 0 .nilIface
  have hD3:=kx.at hD2 (λ e=>by have e' : D=w.heap.size+1:=e;omega);have gZ:=(World.putObj_heap_other (w:=X) (r:=D) (o:=.deferred none) (k:=w.heap.size+1) (by omega)).trans g3;have v4:=Zb gZ 0;simp only [List.getElem?_toArray,List.getElem?_cons_zero] at v0 v4;have ks:Zc (λ q=>q=D) X (X.putObj D (.deferred none)):=Xd;have KF:Za w (X.putObj D (.deferred none)):=Zc.trans (Zc.trans (K1.trans' hj) kx (λ i hi e=>by have e' : i=w.heap.size+1:=e;omega)) ks (λ i hi e=>by have e' : i=D:=e;omega);have HX:Hid (W.setCell ⟨w.heap.size+1,0,none⟩ .nilIface=X):=hX.symm;clear hX
  gi_wp2_with fail
  rw [HX.out];refine ⟨by simp,.inl ⟨_,_,rfl,run_takeDeferred hD3,?_⟩⟩;exact ⟨.nilIface,by simp [results,results85,go_sem,v4],rfl,KF⟩
 case round=>
  rintro l k vs W hk hl hlW hj ⟨hk', rfl⟩;have rb:=(ST.out W hj).2
  gi_wp2_with fail
  refine ⟨Rnd.same (Zc.refl _ _) (by have:=hj.size;omega),λ o o' ho hoc hoc' => ?_⟩;obtain ⟨Wb,hWb⟩:∃ Wb,Wb=W.putObj l o' := ⟨_,rfl⟩;have kb:Zc (λ q=>q=l) W Wb:=by rw [hWb];exact Xd
  have hjb:Za w1 Wb:=Zc.trans hj kb (λ i hi e=>by have e' : i=l:=e;omega);rw [<- hWb];clear hWb ho;obtain ⟨hstb,rbb⟩:=ST.out Wb hjb;have hzb:=hjb.size;have CB:=Zsq hstb (hall k hk);have FIN:Hid (∀ w3 o,Za Wb w3->Rnd (w1.heap.size+1) w1.heap.size Wb (w3.alloc o)∧Za w1 (w3.alloc o)):=λ w3 o hk3=>⟨Rnd.same (Zc.alloc hk3 _) hzb,hjb.trans' (Zc.alloc hk3 _)⟩;clear hstb kb hj rb
  gi_wp2_with (first
   | (gi_at_call 52;refine (CallsIn.inRound l (callsIn_wide.2 CB)).mono ?_;rintro e w3 ⟨tk,tr,tpo,tpl,tpc,tko,tkl,tkc,ev,rfl,hev,k3⟩;have C2:=hev.out (w3.alloc (.cells #[.int .i64 tk,.int .i64 tr,.slice tpo tpl tpc,.slice tko tkl tkc] 63)) (Zal9);obtain ⟨m3,m4⟩:=FIN.out w3 (.cells #[.int .i64 tk,.int .i64 tr,.slice tpo tpl tpc,.slice tko tkl tkc] 63) k3)
   | (gi_at_call 27;refine (CallsIn.inRound l (callsIn_wide.2 C2)).mono ?_;rintro e w4 ⟨rfl,rfl⟩))
def ZFk (w:World) (K:Nat) (z:Int) (W:World):Prop:=∃ q,W.heap[w.heap.size+1]? = some (.cells #[.iface 114 (.pointer (some ⟨q,0,none⟩))] 46 (0,0))∧Zn W [(81,(K:Int)),(82,z)] (.iface 114 (.pointer (some ⟨q,0,none⟩)))∧Za w W
theorem Zn.keptE (hk:Zc (λ q=>q=x) w w') {c:Array Value} (hx:w.heap[x]? = some (.cells c 46 (0,0))):∀ {ws:List (Int × Int)} {v:Value},Zn w ws v->Zn w' ws v
 | [],_,h=>h
 | (c', p) :: r,v,h=>by
  rcases h with h | ⟨h0,b,u,h1,h2,h3⟩
  ·exact .inl h
  ·exact .inr ⟨h0,b,u,h1,hk.at h2 (λ e=>by have e' : b=x:=e;subst e'; rw [hx] at h2;cases h2),Zn.keptE hk hx h3⟩
theorem Zoy {vs:List Value} (h:X6 w b bs L R lv vs) {K:Nat} (hKL:K<L.length) (hdK:Xe L (K:Int)=true) (hz:J4 L R K=.error z) (hall:Jy L R K) :
  Calls prog 85 #[.pointer (some ⟨b,0,none⟩)] w λ e w' => ∃ q,e=.returned (.iface 114 (.pointer (some ⟨q,0,none⟩)))∧Zn w' [(81,(K:Int)),(82,z)] (.iface 114 (.pointer (some ⟨q,0,none⟩)))∧Za w w' := by
 have hFn:∀ k,Fence.wide.fn k:=λ _=>trivial;obtain ⟨W1,hW1⟩:∃ W1,W1=(w.alloc (.cells #[.pointer (some ⟨b,0,none⟩)] 43)).alloc (.cells #[.nilIface] 46):=⟨_,rfl⟩;have KW:Za w W1:=by rw [hW1];exact ((Zc.refl _ w).alloc _).alloc _
 have ez:W1.heap.size=w.heap.size+1+1:=by rw [hW1];simp
 have BK:Hid (∀ ww,Za W1 ww->ww.heap[w.heap.size]? = some (.cells #[.pointer (some ⟨b,0,none⟩)] 43 (0,0))∧ww.heap[w.heap.size+1]? = some (.cells #[.nilIface] 46 (0,0))):=λ ww hk=>by
  have k1:Za (w.alloc (.cells #[.pointer (some ⟨b,0,none⟩)] 43)) W1:=by rw [hW1];exact Zal9
  exact ⟨hk.at0 (k1.at0 (heap_alloc_new w _)),hk.at0 (by rw [hW1];exact Zo _ _ _)⟩
 have r0:W1.cell? ⟨w.heap.size,0,none⟩=some (.pointer (some ⟨b,0,none⟩)):=Zb (BK.out W1 (Zc.refl _ _)).1 0;have CS:=(callsIn_wide (n:=8)).2 (Zbp (h.same KW));refine (callsIn_wide (n:=9)).1 ?_;refine callsIn_of_wp_marks func85 rfl trivial ?_ rfl;simp only [ntmps85,List.size_toArray,List.length_cons,List.length_nil,Nat.reduceAdd,Nat.reduceSub,Array.replicate_succ,Array.replicate_zero,List.push_toArray,List.append_toArray,List.nil_append,List.cons_append]
 gi_upto_region 1 with fail
 rw [<- hW1];clear hW1
 gi_wp2_with (first
  | (gi_at_call 47;refine CS.mono ?_;rintro e w1 ⟨bt,rfl,hbt,sv,mr,hsig,hfoot,k1'⟩)
  | (gi_at_call 23;refine (Zw5 Fence.wide _ trivial rfl _ _).mono ?_;rintro e w' ⟨rfl,rfl⟩))
 have k1:Za W1 w1:=k1';have K1:Za w w1:=KW.trans' k1;have hzw:=k1.size;obtain ⟨W0,hW0⟩:∃ W0,W0=w1.alloc (.cells #[.pointer (some ⟨bt,0,none⟩)] 41):=⟨_,rfl⟩;have K0:Za w1 W0:=by rw [hW0];exact Zal9
 have z0:W0.heap.size=w1.heap.size+1:=by rw [hW0];simp
 have b2:W0.cell? ⟨w1.heap.size,0,none⟩=some (.pointer (some ⟨bt,0,none⟩)):=by rw [hW0];exact Zb (heap_alloc_new w1 _) 0
 rw [<- hW0];clear hW0;have ST:Hid (∀ X,Za w1 X->X6 X b bs L R lv vs∧X.cell? ⟨w.heap.size,0,none⟩=some (.pointer (some ⟨b,0,none⟩))):=λ X hk=>⟨h.same (K1.trans' hk),Zb (BK.out X (k1.trans' hk)).1 0⟩
 refine Zaj rfl (by omega) (gf:=51) (lb:=#[.pointer (some ⟨w1.heap.size,0,none⟩)]) rfl trivial (enters_of func51 (by kernel_rfl) rfl) (B:=w1.heap.size) (by omega) (Zdh hsig K0 b2 (by omega)) (λ k vs W h=>by obtain ⟨_,rfl⟩:=h;rfl)
  (λ k W=>k<=K∧Za w1 W) (λ k X Y h hk=>⟨h.1,h.2.trans' hk⟩) (λ k X l o o' h hl ho hw=>⟨h.1,Zc.trans h.2 (Xd (l:=l) (o' := o')) (λ i hi e=>by have e' : i=l:=e;omega)⟩) ⟨Nat.zero_le _,K0⟩ (ZFk w K z) (λ X Y h hk=>by
   obtain ⟨q,h1,h2,h3⟩:=h;exact ⟨q,hk.at0 h1,Zn.same hk h2,h3.trans' hk⟩) (λ X l o o' h hl ho hw=>by
   obtain ⟨q,h1,h2,h3⟩:=h;have kk:Zc (λ k=>k=l) X (X.putObj l o'):=Xd
   exact ⟨q,Yg hl ho h1 rfl,Zn.keptC kk (λ b e cs T hb=>by have e' : b=l:=e;subst e'; rw [hl] at hb;cases hb;cases ho) h2,Zc.trans h3 kk (λ i hi e=>by have e' : i=l:=e;omega)⟩) ?round ?done ?stop
 case done=>
  rintro D W hD ⟨hj,_⟩ hD2;omega
 case stop=>
  rintro D W hD ⟨q,h1,h2,h3⟩ hD2;have ks:Zc (λ q=>q=D) W (W.putObj D (.deferred none)):=Xd;have gZ:=(World.putObj_heap_other (w:=W) (r:=D) (o:=.deferred none) (k:=w.heap.size+1) (by omega)).trans h1;have v0:=Zb gZ 0;simp only [List.getElem?_toArray,List.getElem?_cons_zero] at v0;have hf2:Zn (W.putObj D (.deferred none)) [(81,(K:Int)),(82,z)] (.iface 114 (.pointer (some ⟨q,0,none⟩))):=Zn.keptC ks (λ b e cs T hb=>by have e' : b=D:=e;subst e'; rw [hD2] at hb;cases hb) h2;have KF:Za w (W.putObj D (.deferred none)):=Zc.trans h3 ks (λ i hi e=>by have e' : i=D:=e;omega)
  gi_wp2_with fail
  refine ⟨by simp,.inl ⟨_,_,rfl,run_takeDeferred hD2,?_⟩⟩;exact ⟨.iface 114 (.pointer (some ⟨q,0,none⟩)),by simp [results,results85,go_sem,v0],q,rfl,hf2,KF⟩
 case round=>
  rintro l k vs W hk hl hlW ⟨hkK,hj⟩ ⟨hk', rfl⟩;have rb:=(ST.out W hj).2
  gi_wp2_with fail
  refine ⟨Rnd.same (Zc.refl _ _) (by have:=hj.size;omega),λ o o' ho hoc hoc' => ?_⟩;obtain ⟨Wb,hWb⟩:∃ Wb,Wb=W.putObj l o' := ⟨_,rfl⟩;have kb:Zc (λ q=>q=l) W Wb:=by rw [hWb];exact Xd
  have hjb:Za w1 Wb:=Zc.trans hj kb (λ i hi e=>by have e' : i=l:=e;omega);rw [<- hWb];clear hWb ho;obtain ⟨hstb,rbb⟩:=ST.out Wb hjb;have hzb:=hjb.size
  by_cases ekK:k=K
  ·subst ekK
   have CB:Calls prog 52 #[.pointer (some ⟨b,0,none⟩),.int .i64 (k:Int)] Wb λ e w' => ∃ q,e=.returned (.tuple #[K9,.iface 114 (.pointer (some ⟨q,0,none⟩))])∧Hid (Zn w' [(81,(k:Int)),(82,z)] (.iface 114 (.pointer (some ⟨q,0,none⟩))))∧Za Wb w' := by
    refine (Zji hstb (k:Int)).mono ?_;rintro e w' ⟨hk9,h9⟩;rw [if_pos hdK,Int.toNat_natCast,hz] at h9;obtain ⟨v,rfl,hf⟩:=h9;have hf2:=hf
    rcases hf2 with ⟨q,_⟩ | ⟨_,q,u,e1,_⟩
    ·omega
    ·subst e1;exact ⟨q,rfl,hf,hk9⟩
   have FINX:Hid (∀ w3 q,Za Wb w3->Zn w3 [(81,(k:Int)),(82,z)] (.iface 114 (.pointer (some ⟨q,0,none⟩)))->(w3.cell? ⟨w.heap.size+1,0,none⟩=some .nilIface∧w3.frozen? ⟨w.heap.size+1,0,none⟩=false)∧KeepsFrom (w1.heap.size+1) Wb (w3.setCell ⟨w.heap.size+1,0,none⟩ (.iface 114 (.pointer (some ⟨q,0,none⟩))))∧ZFk w k z (w3.setCell ⟨w.heap.size+1,0,none⟩ (.iface 114 (.pointer (some ⟨q,0,none⟩))))):=λ w3 q hk3 hf=>by
    obtain ⟨_,a2⟩:=BK.out w3 ((k1.trans' hjb).trans' hk3);have k5:=Yh w3 (w.heap.size+1) 0 (.iface 114 (.pointer (some ⟨q,0,none⟩)));have kk:=Zc.trans (hk3.mono (S' := λ q=>q=w.heap.size+1) (λ _ _ f=>f.elim)) k5 (λ _ _ e=>e);have n5:=Zt a2 0 (.iface 114 (.pointer (some ⟨q,0,none⟩)));have hf5:=Zn.keptE k5 (c:=#[.nilIface]) a2 hf;exact ⟨⟨Zb a2 0,Zg a2 0⟩,⟨kk.size,λ i o hi ho _=>kk.at ho (λ e=>by have e' : i=w.heap.size+1:=e;omega)⟩,q,n5,hf5,Zc.trans ((K1.trans' hjb).trans' hk3) k5 (λ i hi e=>by have e' : i=w.heap.size+1:=e;omega)⟩
   have C2:Hid (∀ w3 ww q,Zn w3 [(81,(k:Int)),(82,z)] (.iface 114 (.pointer (some ⟨q,0,none⟩)))->Za w3 ww->Calls prog 27 #[.iface 114 (.pointer (some ⟨q,0,none⟩)),.iface 70 (.int .i64 81)] ww λ e w' => e=.returned (.bool true)∧w' = ww):=λ w3 ww q hf hk=>by
    have:=X5 (Zn.same hk hf) (by simp) 81;have e1:Ko [(81,(k:Int)),(82,z)] 81=true:=by simp [Ko]
    rw [e1] at this;exact this
   clear hstb kb hj rb
   gi_wp2_with (first
    | (gi_at_call 52;refine (CallsIn.inRound l (callsIn_wide.2 CB)).mono ?_;rintro e w3 ⟨q,rfl,hf3,k3⟩;have C3:=C2.out w3 (w3.alloc Zy) q hf3.out (Zal9);obtain ⟨⟨m1,m2⟩,m3,m4⟩:=FINX.out (w3.alloc Zy) q (Zc.alloc k3 _) (Zn.same (Zal9) hf3.out))
    | (gi_at_call 27;refine (CallsIn.inRound l (callsIn_wide.2 C3)).mono ?_;rintro e w4 ⟨rfl,rfl⟩))
  ·have CB:=Zsq hstb (hall k (by omega))
   have hk1:k+1<=K:=by omega
   have FIN:Hid (∀ w3 o,Za Wb w3->Rnd (w1.heap.size+1) w1.heap.size Wb (w3.alloc o)∧Za w1 (w3.alloc o)):=λ w3 o hk3=>⟨Rnd.same (Zc.alloc hk3 _) hzb,hjb.trans' (Zc.alloc hk3 _)⟩;clear hstb kb hj rb
   gi_wp2_with (first
    | (gi_at_call 52;refine (CallsIn.inRound l (callsIn_wide.2 CB)).mono ?_;rintro e w3 ⟨tk,tr,tpo,tpl,tpc,tko,tkl,tkc,ev,rfl,hev,k3⟩;have C2:=hev.out (w3.alloc (.cells #[.int .i64 tk,.int .i64 tr,.slice tpo tpl tpc,.slice tko tkl tkc] 63)) (Zal9);obtain ⟨m3,m4⟩:=FIN.out w3 (.cells #[.int .i64 tk,.int .i64 tr,.slice tpo tpl tpc,.slice tko tkl tkc] 63) k3)
    | (gi_at_call 27;refine (CallsIn.inRound l (callsIn_wide.2 C2)).mono ?_;rintro e w4 ⟨rfl,rfl⟩))
end
section
open Go.RowKit
attribute [local go_sem ↓] Go.wp_at_zero Go.wp_at_succ
theorem Zu9 {rc:Nat} {vs:List Value} (h:MO w m ro rc L R lv vs) (hl:Vh w lo l) (hll:l.length<=140737488355328) (hln:lo=none->lc=0) (ha:Ans L R l []) (hok:∀ x∈l,Zd L x.1=0∧Zd L x.2=0) (hlen:R.length+l.length<=100)
  (hlk:∀ ww,Zc (λ q=>q=m∨lv.ownBlock=some q) w ww->Vh ww lo l) :
  Calls prog 54 #[.pointer (some ⟨m,0,none⟩),.slice lo l.length lc] w λ e w' => ∃ lv' vs', e=.returned (.slice none 0 0)∧MO w' m ro rc L (R++l) lv' vs' ∧ (∀ q,lv'.ownBlock=some q->lv.ownBlock=some q∨w.heap.size<=q)∧Zc (λ q=>q=m∨lv.ownBlock=some q) w w' := by
 obtain ⟨mo,mc,hlv,hm⟩:=h.read;have CK:=Zmc hm (lc:=lc) hl hll hln;have c1:=Zb h.blk 1;have HH:Hid (∀ ww,Za w ww->MO ww m ro rc L R lv vs):=λ ww hk=>h.same hk;clear hlv hm hl h
 go_enter func54,ntmps54
 go_wp2_with ((go_at_call 95;refine CK.mono ?_;rintro e w1 ⟨ws,v,rfl,hws,hwa,hk1⟩;obtain rfl:ws=[]:=hws.uniq ha;obtain ⟨wo,wc', rfl,_⟩:=hwa))
 have M1:=HH.out w1 hk1;have K1:Zc (λ q=>q=m∨lv.ownBlock=some q) w w1:=Zc.mono hk1 (λ _ _ f=>f.elim);clear HH CK hk1 c1
 go_loopw [6] (λ i wr=>∃ (k:Nat) (lk:Value) (vk:List Value),k<=l.length∧i=.int .i64 (k:Int)∧Hid (MO wr m ro rc L (R++l.take k) lk vk)∧Hid (∀ q,lk.ownBlock=some q->lv.ownBlock=some q∨w.heap.size<=q)∧Zc (λ q=>q=m∨lv.ownBlock=some q) w wr) (λ i _=>l.length-(intOf i).toNat)
 case atStart=>exact ⟨0,lv,vs,Nat.zero_le _,rfl,by simpa [Hid] using M1,(λ q e=>.inl e),K1⟩
 case round=>
  clear M1 K1;obtain ⟨k,lk,vk,hk,rfl,hM,hB,hw⟩:=hrel
  by_cases hlt:k<l.length
  ·obtain ⟨gb,goff,rfl,hgb,go1,gc1,go2,gc2,r0,r1,A1,A2⟩:=(hlk wr hw).get hlt
   have hxk:=hok _ (List.getElem_mem hlt);have hxl:=Yr hxk
   obtain ⟨a1,rfl⟩:∃ a1,go1=some a1:=by
    cases go1 with
    | none=>have:=(A1.nil rfl).1;omega
    | some a=>exact ⟨a,rfl⟩
   obtain ⟨a2,rfl⟩:∃ a2,go2=some a2:=by
    cases go2 with
    | none=>have:=(A2.nil rfl).1;omega
    | some a=>exact ⟨a,rfl⟩
   have i1:(0:Int)<=(k:Int):=by omega
   have i2:(k:Int)<(l.length:Int):=by omega
   have hn:(R++l.take k).length=R.length+k:=by simp;omega
   have CELLS:Hid (∀ ww,Za wr ww->ww.cell? ⟨m,1,none⟩=some lk∧ww.cell? ⟨gb,goff+k * 2,none⟩=some (.slice (some a1) l[k].1.length gc1)∧ww.cell? ⟨gb,goff+k * 2+1,none⟩=some (.slice (some a2) l[k].2.length gc2)):=λ ww hk=>⟨Zb (hk.at0 hM.out.blk) 1,(hk.cell (p:=⟨gb,goff+k * 2,none⟩) hgb (λ f=>f)).trans r0,(hk.cell (p:=⟨gb,goff+k * 2+1,none⟩) hgb (λ f=>f)).trans r1⟩;have CO:Hid (∀ ww,Za wr ww->Calls prog 96 #[.agg #[.slice (some a1) l[k].1.length gc1,.slice (some a2) l[k].2.length gc2]] ww λ e w' => ∃ g c g' c', e=.returned (.agg #[.slice (some ⟨g,0,none⟩) l[k].1.length c,.slice (some ⟨g', 0,none⟩) l[k].2.length c'])∧Yu w' g c l[k].1∧Yu w' g' c' l[k].2∧Za wr w'):=λ ww hk=>(Zwb (ac:=gc1) (bc:=gc2) (A1.same hk).at' (A2.same hk).at' hxl.1.1 hxl.2.1 hxl.1.2 hxl.2.2).mono (λ e w' ⟨g,c,g', c', q1,q2,q3,_,_,q4⟩=>⟨g,c,g', c', q1,q2,q3,hk.trans' q4⟩);have W1:Za wr wr.drew:=Zc.drew (Zc.refl _ _);have CC0:=CELLS.out wr (Zc.refl _ _);have HRW:Hid (∀ ww,Za wr ww->ww.ownsRow 0 90 2 lk (R.length+k) vk):=λ ww hk=>by rw [<- hn];exact (hM.out.same hk).row
   have h48:(R.length+k+1) * 48<=140737488355328:=by omega
   have FIN:Hid (∀ w2 g c g' c' gg cap w9,Za wr w2->Yu w2 g c l[k].1->Yu w2 g' c' l[k].2->w9.ownsRow 0 90 2 (.slice (some ⟨gg,0,none⟩) (R.length+k+1) cap) (R.length+k+1) (vk ++ [.slice (some ⟨g,0,none⟩) l[k].1.length c,.slice (some ⟨g', 0,none⟩) l[k].2.length c'])->Zc (λ q=>lk.ownBlock=some q) w2 w9->(lk.ownBlock=some gg∨w2.heap.size<=gg)->(w9.cell? ⟨m,1,none⟩=some lk∧w9.frozen? ⟨m,1,none⟩=false)∧Hid (∃ (k' : Nat) (lk' : Value) (vk' : List Value),k' <= l.length∧Value.int .i64 ((k:Int)+1)=.int .i64 (k' : Int)∧lk' = .slice (some ⟨gg,0,none⟩) (R.length+k+1) cap∧Hid (MO (w9.setCell ⟨m,1,none⟩ (.slice (some ⟨gg,0,none⟩) (R.length+k+1) cap)) m ro rc L (R++l.take k') lk' vk')∧Hid (∀ q,lk'.ownBlock=some q->lv.ownBlock=some q∨w.heap.size<=q)∧Zc (λ q=>q=m∨lv.ownBlock=some q) w (w9.setCell ⟨m,1,none⟩ (.slice (some ⟨gg,0,none⟩) (R.length+k+1) cap)))):=by
    intro w2 g c g' c' gg cap w9 s2 t1 t2 r9 k9 hat;have:=hM.out.more (gg:=gg) (cap:=cap) s2 t1 t2 hxk (by omega) (by rw [hn];exact r9) k9;rw [hn] at this;refine ⟨this.1,k+1,_,vk ++ [.slice (some ⟨g,0,none⟩) l[k].1.length c,.slice (some ⟨g', 0,none⟩) l[k].2.length c'],hlt,rfl,rfl,?_,?_,?_⟩
    ·show MO _ m ro rc L (R++l.take (k+1)) _ _
     rw [List.take_add_one,List.getElem?_eq_getElem hlt,<- List.append_assoc];exact this.2
    ·intro q e
     simp only [Value.ownBlock,Option.some.injEq] at e;subst e
     rcases hat with e | e
     ·exact hB.out _ e
     ·have:=hw.size;have:=s2.size;exact .inr (by omega)
    ·have sub:∀ q,q<w.heap.size->lk.ownBlock=some q->q=m∨lv.ownBlock=some q:=λ q hq e=>(hB.out q e).elim .inr (λ e=>absurd hq (by omega))
     exact Zc.setCell (p:=⟨m,1,none⟩) ((hw.trans (Zc.mono s2 (λ _ _ f=>f.elim)) (λ _ _ e=>e)).trans k9 (λ q hq e=>sub q hq e)) (λ _=>.inl rfl) _
   have hz0:0<=wr.heap.size:=Nat.zero_le _;clear hM hB hw hn A1 A2 r0 r1 hxk hxl hlk
   go_wp2_with fail
   obtain ⟨x1,x2,x3⟩:=CC0
   go_region_law (first
    | (refine Yn rfl (CO.out _ W1) (by simp [go_sem]) ?_;rintro e w2 ⟨g,c,g', c', rfl,t1,t2,hk2⟩;refine ⟨_,rfl,?_⟩;obtain ⟨cc1,cc2,cc3⟩:=CELLS.out _ hk2;obtain ⟨cd1,_,_⟩:=CELLS.out _ (hk2.alloc (.cells #[.slice (some ⟨g,0,none⟩) l[k].1.length c,.slice (some ⟨g', 0,none⟩) l[k].2.length c'] 90)))
    | (refine Zp3 (w0:=w2) (by rfl) _ _ (by rfl) 0 (R.length+k) vk lk (by rfl) (by first | exact (Zc.refl _ w2).alloc _ | exact (Zc.refl _ w2).drew.alloc _ | exact ((Zc.refl _ w2).alloc _).drew) (HRW.out _ hk2) (.slice (some ⟨g,0,none⟩) l[k].1.length c) (.slice (some ⟨g', 0,none⟩) l[k].2.length c') w2.heap.size (by rfl) (heap_alloc_new w2 _) (by rfl) (by rfl) (Nat.zero_le _) h48 ?_;intro gg cap w9 r9 k9 hat;obtain ⟨⟨y1,y2⟩,FF⟩:=FIN.out w2 g c g' c' gg cap w9 hk2 t1 t2 r9 k9 hat))
   all_goals
    go_wp2_with fail
    obtain ⟨k', lk', vk', z1,z2,rfl,z3,z4,z5⟩:=FF.out;exact ⟨⟨k', _,vk', z1,z2,z3,z4,z5⟩,by simp [intOf];omega⟩
  ·obtain rfl:k=l.length:=by omega
   have HM:Hid (MO wr m ro rc L (R++l) lk vk):=by have:=hM.out;rw [List.take_length] at this;exact this
   clear hM;go_wp2;go_ret;exact ⟨lk,vk,rfl,HM.out,hB.out,hw⟩
theorem Zuj {rc:Nat} {vs:List Value} (h:MO w m ro rc L R lv vs) (hl:Vh w lo l) (hll:l.length<=140737488355328) (hln:lo=none->lc=0) (ha:Ans L R l ws) (hne:ws≠[]) :
  Calls prog 54 #[.pointer (some ⟨m,0,none⟩),.slice lo l.length lc] w λ e w' => ∃ v,e=.returned v∧Xh w' v ws∧Za w w' := by
 obtain ⟨mo,mc,hlv,hm⟩:=h.read;have CK:=Zmc hm (lc:=lc) hl hll hln;have hp:(0:Int)<(ws.length:Int):=by have:=List.length_pos_iff.2 hne;omega
 have HW:Hid (∀ w1 v,Xh w1 v ws->∃ wo wc,v=.slice wo ws.length wc∧Hid (Xh w1 v ws)):=λ w1 v hv=>by
  obtain ⟨wo,wc,e,_⟩:=id hv;exact ⟨wo,wc,e,hv⟩
 clear hlv hm hl h
 go_enter func54,ntmps54
 go_wp2_with ((go_at_call 95;refine CK.mono ?_;rintro e w1 ⟨ws', v,rfl,hws,hwa,hk1⟩;obtain rfl:ws' = ws:=hws.uniq ha;obtain ⟨wo,wc', rfl,hwh⟩:=HW.out _ _ hwa;clear hwa))
 go_ret;exact ⟨_,rfl,hwh.out,hk1⟩
end
section
open Go.RowKit Go.Deep
attribute [local go_sem ↓] Go.wp_at_zero Go.wp_at_succ
section
variable {H : Type} {enc : TypeId × Value -> H} {w : World} {spare : Nat -> Bool} {held : Bool}
end
end
section
open Go.RowKit
attribute [local go_sem ↓] Go.wp_at_zero Go.wp_at_succ
structure Twin (w0 w:World) (L:List Sym) (R:List Ru) (bs b m:Nat) (ro:Option Addr) (rc:Nat) (lv:Value) (vs:List Value) (mv:Value) (ms:List Value):Prop where
 st:X6 w b bs L R lv vs
 mo:MO w m ro rc L R mv ms
 good:GoodR L R
 b0:w0.heap.size<=b
 m0:w0.heap.size<=m
 l0:∀ q,lv.ownBlock=some q->w0.heap.size<=q
 v0:∀ q,mv.ownBlock=some q->w0.heap.size<=q
 apart:∀ q,lv.ownBlock=some q->mv.ownBlock≠some q
 same:Za w0 w
theorem Zi4 {lb loff:Nat} (h:Vh w (some ⟨lb,loff,none⟩) l) {j:Nat} (hj:j<l.length):Vh w (some ⟨lb,loff+j * 2,none⟩) [l[j]]:=by
 obtain ⟨b,off,e,hb,hc⟩:=h.get hj;cases e;refine .inr ⟨lb,loff+j * 2,rfl,hb,λ i hi=>?_⟩;obtain rfl:i=0:=by simp at hi;omega
 simpa using hc
def SyG (w:World) (sp:Option Addr) (L:List Sym) (R:List Ru):Prop:=
 (sp=none∧L=[]∧R=[])∨∃ p bs lv vs,sp=some ⟨p,0,none⟩∧X6 w p bs L R lv vs
theorem SyG.same (h:SyG w sp L R) (hk:Za w w'):SyG w' sp L R:=
 h.imp id (λ ⟨p,bs,lv,vs,e,hs⟩=>⟨p,bs,lv,vs,e,hs.same hk⟩)
def Zki (w:World) (q:Nat):Prop:=(∃ c,w.heap[q]? = some (.cells c 92 (0,0)))∨(∃ c,w.heap[q]? = some (.cells c 94 (0,0)))∨(∃ c,w.heap[q]? = some (.cells c 31 (0,0)))∨(∃ c,w.heap[q]? = some (.cells c 131 (0,0)))∨∃ c,w.heap[q]? = some (.cells c 126 (0,0))
theorem Zki.no (h:Zki w q):(∀ cur,w.heap[q]? ≠ some (.cells cur 3 (0,0)))∧(∀ cur,w.heap[q]? ≠ some (.cells cur 60 (0,0)))∧(∀ cur,w.heap[q]? ≠ some (.cells cur 90 (0,0)))∧(∀ cur,w.heap[q]? ≠ some (.cells cur 113 (0,0)))∧(∀ cur,w.heap[q]? ≠ some (.cells cur 116 (0,0)))∧(∀ cur,w.heap[q]? ≠ some (.cells cur 111 (0,0))):=by
 refine ⟨λ cur e=>?_,λ cur e=>?_,λ cur e=>?_,λ cur e=>?_,λ cur e=>?_,λ cur e=>?_⟩ <;> rcases h with ⟨c,h⟩ | ⟨c,h⟩ | ⟨c,h⟩ | ⟨c,h⟩ | ⟨c,h⟩ <;> (rw [h] at e;cases e)
theorem Zki.no_sig {sv:Value} {mr:Option Nat} (h:Zki w k) (hs:Yc w b L sv mr):¬ Foot b sv mr k:=by
 rintro (e | e | e)
 ·subst e
  exact h.no.2.2.2.2.2 _ hs.blk
 ·obtain ⟨c', this⟩:=Yb hs.row e
  exact h.no.2.1 c' this
 ·subst e
  obtain ⟨n,D,hm,_⟩:=hs.map;obtain ⟨es,clock,this,_⟩:=hm
  rcases h with ⟨c,h⟩ | ⟨c,h⟩ | ⟨c,h⟩ | ⟨c,h⟩ | ⟨c,h⟩ <;> (rw [h] at this;cases this)
theorem Sg.keptY (h:Sg n w b L) (hk:Zc S w w') (hS:∀ k,S k->Zki w k):Sg n w' b L:=by
 obtain ⟨⟨sv,mr,h1,h2⟩,h3⟩:=h;exact ⟨⟨sv,mr,h1.kept hk (λ k e s=>(hS k s).no_sig h1 e),h2⟩,h3⟩
theorem X6.keptY {vs:List Value} (h:X6 w b bs L R lv vs) (hk:Zc S w w') (hS:∀ k,S k->Zki w k):X6 w' b bs L R lv vs:=
 ⟨hk.at h.blk (λ s=>(hS b s).no.2.2.2.1 _ h.blk),Zbs (h.sig.keptY hk hS) hk.size,hk.row h.row (λ q e s=>by obtain ⟨c,hc⟩:=Yb h.row e;exact (hS q s).no.2.2.1 c hc),h.own.kept hk (λ k s=>(hS k s).no.1),h.le,h.ok⟩
theorem SyG.keptY (h:SyG w sp L R) (hk:Zc S w w') (hS:∀ k,S k->Zki w k):SyG w' sp L R:=
 h.imp id (λ ⟨p,bs,lv,vs,e,hs⟩=>⟨p,bs,lv,vs,e,hs.keptY hk hS⟩)
theorem sy_nil (w:World):(binOp .eql 43 (.pointer none) (.pointer none)).run prog w=.ok (.bool true) w:=by kernel_rfl
theorem Zs6 (b:Nat) (w:World):(binOp .eql 43 (.pointer (some ⟨b,0,none⟩)) (.pointer none)).run prog w=.ok (.bool false) w:=by kernel_rfl
theorem Zlt:Ars []:=λ x hx=>by simp at hx
theorem J6 (h:SyG w sp L R) :
  Calls prog 41 #[.agg #[.pointer sp]] w λ e w' => ∃ p bs lv vs,e=.returned (.pointer (some ⟨p,0,none⟩))∧X6 w' p bs L R lv vs∧Za w w' := by
 have hn1:=sy_nil;have hn2:=Zs6
 rcases h with ⟨rfl,rfl,rfl⟩ | ⟨p,bs,lv,vs,rfl,hs⟩
 ·obtain ⟨W1,hW1⟩:∃ W1,W1=w.alloc (.cells #[.pointer none] 92):=⟨_,rfl⟩
  have KW:Za w W1:=by rw [hW1];exact (Zc.refl _ w).alloc _
  have h0:W1.cell? ⟨w.heap.size,0,none⟩=some (.pointer none):=by rw [hW1];exact Zb (heap_alloc_new w _) 0
  have C1:=Zx0 W1;obtain ⟨W2,hW2⟩:∃ W2,W2=W1.alloc (.cells #[.slice none 0 0,.map none] 111):=⟨_,rfl⟩;have K2:Za W1 W2:=by rw [hW2];exact Zal9
  have hsa:Yc W2 W1.heap.size [] (.slice none 0 0) none:=by rw [hW2];exact Zzx W1
  have C2:=Zno (w:=W2) (bs:=W1.heap.size) (L:=[]) ⟨⟨_,none,hsa,λ k hk=>Ja hsa k hk⟩,Zlt⟩;rw [<- hW2] at C1;clear hsa hW2;generalize W1.heap.size=bq at *
  go_enter func41,ntmps41
  go_upto_region 1 with fail
  rw [<- hW1];clear hW1
  go_wp2_with (first | (go_at_call 73;refine C1.mono ?_;rintro e w1 ⟨rfl,rfl⟩) | (go_at_call 72;refine C2.mono ?_;rintro e w2 ⟨rfl,hst,k2⟩))
  go_ret;exact ⟨_,_,_,_,rfl,hst,(KW.trans' K2).trans' k2⟩
 ·have ka:Za w (w.alloc (.cells #[.pointer (some ⟨p,0,none⟩)] 92)):=(Zc.refl _ w).alloc _
  have HS:Hid (X6 (w.alloc (.cells #[.pointer (some ⟨p,0,none⟩)] 92)) p bs L R lv vs):=hs.same ka;clear hs
  go_enter func41,ntmps41
  go_wp2;go_ret;exact ⟨_,_,_,_,rfl,HS.out,ka⟩
theorem Zem (hE:ErrT w) {code c p:Int} {r:List (Int × Int)} (hv:Zn w ((c,p) :: r) v) (hp:p ≠ -1) :
  Calls prog 84 #[.int .i64 code,v] w λ e w' => ∃ q,e=.returned (.iface 114 (.pointer (some ⟨q,0,none⟩)))∧Zn w' ((code,p) :: (c,p) :: r) (.iface 114 (.pointer (some ⟨q,0,none⟩)))∧Za w w' := by
 rcases hv with ⟨e,_⟩ | ⟨h0,b,u,rfl,h2,h3⟩
 ·exact absurd e hp
 ·obtain ⟨W1,hW1⟩:∃ W1,W1=(w.alloc (.cells #[.int .i64 code,.int .i64 0,.iface 114 (.pointer (some ⟨b,0,none⟩))] 116)).alloc (.cells #[.pointer none] 114):=⟨_,rfl⟩
  have KW:Za w W1:=by rw [hW1];exact ((Zc.refl _ w).alloc _).alloc _
  have b0:W1.heap[w.heap.size]? = some (.cells #[.int .i64 code,.int .i64 0,.iface 114 (.pointer (some ⟨b,0,none⟩))] 116 (0,0)):=by rw [hW1];exact heap_alloc2_old _ _ _
  have b1:W1.heap[w.heap.size+1]? = some (.cells #[.pointer none] 114 (0,0)):=by rw [hW1];exact Zo _ _ _
  have CA:=as_hit ⟨b,0,none⟩ (hE.same KW) b1;have hbw:=Zi h2
  have AFT:Hid (∀ w2,w2.heap[w.heap.size+1]? = some (.cells #[.pointer (some ⟨b,0,none⟩)] 114 (0,0))->Zc (λ k=>k=w.heap.size+1) W1 w2->(w2.cell? ⟨w.heap.size+1,0,none⟩=some (.pointer (some ⟨b,0,none⟩))∧w2.cell? ⟨b,1,none⟩=some (.int .i64 p)∧w2.cell? ⟨w.heap.size,1,none⟩=some (.int .i64 0)∧w2.frozen? ⟨w.heap.size,1,none⟩=false)∧Zn (w2.setCell ⟨w.heap.size,1,none⟩ (.int .i64 p)) ((code,p) :: (c,p) :: r) (.iface 114 (.pointer (some ⟨w.heap.size,0,none⟩)))∧Za w (w2.setCell ⟨w.heap.size,1,none⟩ (.int .i64 p))):=λ w2 g1 g2=>by
   have d0:=g2.at b0 (λ e=>by have e' : w.heap.size=w.heap.size+1:=e;omega);have d1:=g2.at (KW.at0 h2) (λ e=>by have e' : b=w.heap.size+1:=e;omega);have k3:=Yh w2 w.heap.size 1 (.int .i64 p);have d2:=k3.at d1 (λ e=>by have e' : b=w.heap.size:=e;omega);have n0:=Zt d0 1 (.int .i64 p);have K2:Za w w2:=Zc.trans KW g2 (λ i hi e=>by have e' : i=w.heap.size+1:=e;omega);have K3:Za w (w2.setCell ⟨w.heap.size,1,none⟩ (.int .i64 p)):=Zc.trans K2 k3 (λ i hi e=>by have e' : i=w.heap.size:=e;omega);exact ⟨⟨Zb g1 0,Zb d1 1,Zb d0 1,Zg d0 1⟩,.inr ⟨hp,w.heap.size,_,rfl,n0,.inr ⟨hp,b,u,rfl,d2,Zn.same K3 h3⟩⟩,K3⟩
  clear b0 b1 h2 h3 hbw hE
  go_enter func84,ntmps84
  go_upto_region 3 with fail
  rw [<- hW1];clear hW1
  go_upto_region 4 with ((go_at_call 103;refine CA.mono ?_;rintro e w2 ⟨rfl,g1,g2⟩))
  obtain ⟨⟨y0,y1,y2,y3⟩,HF⟩:=AFT.out w2 g1 g2;have HF2:Hid (_∧_):=HF;clear HF g1 g2 CA;go_wp2;go_ret;exact ⟨_,rfl,HF2.out.1,HF2.out.2⟩
theorem Zwo (w:World):Calls prog 8 #[] w λ e w' => e=.returned (.pointer (some ⟨w.heap.size,0,none⟩))∧w' = w.alloc (.cells #[.pointer none,.int .i64 0] 94):=by
 go_enter func8,ntmps8
 go_wp2;go_ret;exact ⟨rfl,rfl⟩
def Zjh (L:List Sym) (R:List Ru) (K:Nat) (z:Int):Prop:=K<L.length∧Xe L (K:Int)=true∧J4 L R K=.error z∧Jy L R K
theorem Zot (L:List Sym) (R:List Ru):Jy L R L.length∨∃ K z,Zjh L R K z:=by
 have key:∀ n,n<=L.length->Jy L R n∨∃ K z,Zjh L R K z:=by
  intro n
  induction n with
  | zero=>exact λ _=>.inl (λ k hk=>by omega)
  | succ n ih=>
   intro hn
   rcases ih (by omega) with h | h
   ·by_cases hd:Xe L (n:Int)=true
    ·cases ht:J4 L R n with
     | ok t=>
      refine .inl (λ k hk hdk=>?_)
      by_cases e:k=n
      ·subst e;exact ⟨t,ht⟩
      ·exact h k (by omega) hdk
     | error z=>exact .inr ⟨n,z,by omega,hd,ht,h⟩
    ·refine .inl (λ k hk hdk=>?_)
     by_cases e:k=n
     ·subst e;exact absurd hdk hd
     ·exact h k (by omega) hdk
   ·exact .inr h
 exact key L.length (Nat.le_refl _)
def Zcw (L:List Sym) (R l:List Ru) (ws:List (Int × Int)):Prop:=
 (∃ c p r,Ans L R l ((c,p) :: r)∧p ≠ -1∧r.length<=1∧ws=(101,p) :: (c,p) :: r)∨(Ans L R l []∧∃ K z,Zjh L (R++l) K z∧ws=[(102,(K:Int)),(81,(K:Int)),(82,z)])∨(Ans L R l []∧Jy L (R++l) L.length∧ws=[])
theorem Zcw.uniq {ws':List (Int × Int)} (h:Zcw L R l ws) (h' : Zcw L R l ws'):ws=ws' := by
 have nf:∀ {R' : List Ru} {K:Nat} {z:Int},Zjh L R' K z->¬ Jy L R' L.length:=λ hf hn=>by
  obtain ⟨t,ht⟩:=hn _ hf.1 hf.2.1;rw [hf.2.2.1] at ht;cases ht
 rcases h with ⟨c,p,r,a,_,_,e⟩ | ⟨a,K,z,f,e⟩ | ⟨a,f,e⟩ <;> rcases h' with ⟨c', p', r', a', _,_,e'⟩ | ⟨a', K', z', f', e'⟩ | ⟨a', f', e'⟩
 ·have:=a.uniq a'
  cases this
  rw [e,e']
 ·have:=a.uniq a'; cases this
 ·have:=a.uniq a'; cases this
 ·have:=a.uniq a'; cases this
 ·have hK:K=K' := by
   rcases Nat.lt_trichotomy K K' with q | q | q
   ·obtain ⟨t,ht⟩:=f'.2.2.2 K q f.2.1
    rw [f.2.2.1] at ht;cases ht
   ·exact q
   ·obtain ⟨t,ht⟩:=f.2.2.2 K' q f'.2.1
    rw [f'.2.2.1] at ht;cases ht
  subst hK
  have hz:z=z' := by
   have:=f.2.2.1.symm.trans f'.2.2.1;cases this;rfl
  rw [e,e', hz]
 ·exact absurd f' (nf f)
 ·have:=a.uniq a'; cases this
 ·exact absurd f (nf f')
 ·rw [e,e']
theorem Zn.keptN (hk:Zc (λ q=>q=x) w w') (hx:∀ c,w.heap[x]? ≠ some (.cells c 116 (0,0))):∀ {ws:List (Int × Int)} {v:Value},Zn w ws v->Zn w' ws v
 | [],_,h=>h
 | (c', p) :: r,v,h=>by
  rcases h with h | ⟨h0,b,u,h1,h2,h3⟩
  ·exact .inl h
  ·exact .inr ⟨h0,b,u,h1,hk.at h2 (λ e=>by have e' : b=x:=e;subst e'; exact hx _ h2),Zn.keptN hk hx h3⟩
theorem Zl3 (v:Value) (w:World):(binOp .neq 46 (.iface 114 v) .nilIface).run prog w=.ok (.bool true) w:=by kernel_rfl
theorem Za6 (w:World):(binOp .neq 46 .nilIface .nilIface).run prog w=.ok (.bool false) w:=by kernel_rfl
theorem Zg8 (hE:ErrT w) (h:SyG w sp L R) (hl:Vh w lo l) (hll:l.length<=140737488355328) (hlc:l.length<=lc) :
  Calls prog 49 #[.agg #[.pointer sp],.slice lo l.length lc] w λ e w' => ∃ ws v sp', e=.returned (.tuple #[.agg #[.pointer sp'],v])∧Zcw L R l ws∧Zn w' ws v∧Za w w' ∧ (ws=[]->v=.nilIface∧∃ p bs lv vs,sp' = some ⟨p,0,none⟩∧X6 w' p bs L (R++l) lv vs)∧(ws≠[]->∃ k,v=.iface 114 (.pointer (some ⟨k,0,none⟩))):=by
 have hn1:=Zl3;have hn0:=Za6;obtain ⟨W1,hW1⟩:∃ W1,W1=(w.alloc (.cells #[.pointer sp] 92)).alloc (.cells #[.pointer none] 92):=⟨_,rfl⟩;have KW:Za w W1:=by rw [hW1];exact ((Zc.refl _ w).alloc _).alloc _
 have b0:W1.heap[w.heap.size]? = some (.cells #[.pointer sp] 92 (0,0)):=by rw [hW1];exact heap_alloc2_old _ _ _
 have b1:W1.heap[w.heap.size+1]? = some (.cells #[.pointer none] 92 (0,0)):=by rw [hW1];exact Zo _ _ _
 have g0:W1.cell? ⟨w.heap.size,0,none⟩=some (.pointer sp):=Zb b0 0
 have HB:Hid (∀ ww,Za W1 ww->ww.cell? ⟨w.heap.size+1,0,none⟩=some (.pointer none)∧ww.frozen? ⟨w.heap.size+1,0,none⟩=false∧Zki ww (w.heap.size+1)∧∀ u,(ww.setCell ⟨w.heap.size+1,0,none⟩ u).cell? ⟨w.heap.size+1,0,none⟩=some u∧Za w (ww.setCell ⟨w.heap.size+1,0,none⟩ u)∧Zc (λ q=>q=w.heap.size+1) ww (ww.setCell ⟨w.heap.size+1,0,none⟩ u)):=λ ww hk=>by
  have h2:=hk.at0 b1;refine ⟨Zb h2 0,Zg h2 0,(.inl ⟨_,h2⟩),λ u=>?_⟩;have k3:=Yh ww (w.heap.size+1) 0 u;exact ⟨Zb (Zt h2 0 u) 0,Zc.trans (KW.trans' hk) k3 (λ i hi e=>by have e' : i=w.heap.size+1:=e;omega),k3⟩
 have C1:=J6 (h.same KW);have C2:Hid (∀ ww p bs lv vs,X6 ww p bs L R lv vs->Calls prog 42 #[.pointer (some ⟨p,0,none⟩)] ww λ e w' => ∃ b' bs' lv' vs', e=.returned (.pointer (some ⟨b', 0,none⟩))∧Hid (X6 w' b' bs' L R lv' vs' ∧ ww.heap.size<=b' ∧ (∀ q,lv'.ownBlock=some q->ww.heap.size<=q))∧Za ww w'):=λ ww p bs lv vs hs=>(Ziz hs).mono (λ e w' ⟨b', bs', lv', vs', e1,a,a2,a3,a4,a5⟩=>⟨b', bs', lv', vs', e1,⟨a,a2,a4⟩,a5⟩);have HL:Hid (∀ ww,Za W1 ww->Vh ww lo l):=λ ww hk=>hl.same (KW.trans' hk);have HET:Hid (∀ ww,Za W1 ww->ErrT ww):=λ ww hk=>hE.same (KW.trans' hk);have HZ:Hid (w.heap.size+1<W1.heap.size):=Zi b1;clear h hE hl b0 b1
 go_enter func49,ntmps49
 go_upto_region 1 with fail
 rw [<- hW1];clear hW1
 go_upto_region 2 with (first
  | (go_at_call 41;refine C1.mono ?_;rintro e w2 ⟨p,bs,lv,vs,rfl,hst,k2⟩;have C3:=C2.out w2 p bs lv vs hst)
  | (go_at_call 42;refine C3.mono ?_;rintro e w3 ⟨b', bs', lv', vs', rfl,h3,k3⟩))
 have K3:Za W1 w3:=k2.trans' k3;have z23:=k2.size
 have CA:Calls prog 46 #[.pointer (some ⟨b', 0,none⟩),.slice lo l.length lc] w3 λ e w' => ∃ ws v,e=.returned v∧Hid (Ans L R l ws∧Zn w' ws v∧ws.length<=2∧(ws=[]->∃ lv2 vs2,X6 w' b' bs' L (R++l) lv2 vs2))∧Za W1 w' := by
  refine (Zj7 (lc:=lc) h3.out.1 (HL.out w3 K3) hll hlc).mono ?_;rintro e w' ⟨ws,v,e1,a1,a2,a3,a4,a5⟩
  by_cases hws:ws=[]
  ·obtain ⟨lv2,vs2,q1,q2,q3⟩:=a5 hws
   refine ⟨ws,v,e1,⟨a1,a2,a3,λ _=>⟨lv2,vs2,q1⟩⟩,Zc.trans K3 q2 (λ i hi e=>?_)⟩;have:=h3.out.2.1
   rcases e with e | e
   ·omega
   ·have:=h3.out.2.2 i e;omega
  ·exact ⟨ws,v,e1,⟨a1,a2,a3,λ e=>absurd e hws⟩,K3.trans' (a4 hws)⟩
 clear C1 C2 C3 g0 h3 HL z23
 go_upto_region 3 with ((go_at_call 46;refine CA.mono ?_;rintro e w4 ⟨ws,v,rfl,h4,K4⟩))
 obtain ⟨a1,a2,a3,a4⟩:=h4.out;clear CA h4
 rcases a1.flt a2 with ⟨hws,rfl⟩ | ⟨hws,k,rfl⟩
 ·obtain ⟨lv2,vs2,hst2⟩:=a4 hws
  rw [hws] at a1;have HA:Hid (Ans L R l []):=a1;clear a1 a2 a3 a4 hws
  rcases Zot L (R++l) with hno | ⟨K,z,hf⟩
  ·have C5:=Zrq hst2 hno
   have HST:Hid (∀ ww,Za w4 ww->X6 ww b' bs' L (R++l) lv2 vs2):=λ ww hk=>hst2.same hk;have HN:Hid (Jy L (R++l) L.length):=hno;clear hst2 hno
   go_upto_region 6 with ((go_at_call 85;refine C5.mono ?_;rintro e w5 ⟨rfl,k5⟩))
   obtain ⟨y0,y1,y3,y2⟩:=HB.out w5 (K4.trans' k5);obtain ⟨q0,q1,q2⟩:=y2 (.pointer (some ⟨b', 0,none⟩));have hz:=HZ.out;have hsz4:=K4.size;have FIN:Hid (X6 (w5.setCell ⟨w.heap.size+1,0,none⟩ (.pointer (some ⟨b', 0,none⟩))) b' bs' L (R++l) lv2 vs2):=(HST.out w5 k5).keptY q2 (λ i e=>by have e' : i=w.heap.size+1:=e;rw [e'];exact y3);have HQ:Hid (_∧_):=⟨q0,q1⟩;clear q0 q1 q2 y2 y3 hz hsz4 C5;go_wp2;exact bodyPost_ret (v:=.tuple #[.agg #[.pointer (some ⟨b', 0,none⟩)],.nilIface]) (by simp [results,results49,go_sem,HQ.out.1]) rfl ⟨[],.nilIface,_,rfl,.inr (.inr ⟨HA.out,HN.out,rfl⟩),rfl,HQ.out.2,λ _=>⟨rfl,b', bs', lv2,vs2,rfl,FIN.out⟩,λ e=>absurd rfl e⟩
  ·have C5:=Zoy hst2 hf.1 hf.2.1 hf.2.2.1 hf.2.2.2
   have HF:Hid (Zjh L (R++l) K z):=hf;clear hst2 hf
   go_upto_region 6 with ((go_at_call 85;refine C5.mono ?_;rintro e w5 ⟨q,rfl,hfl,k5⟩))
   have C6:=Zem (code:=102) (HET.out w5 (K4.trans' k5)) hfl (by omega);clear C5 hfl
   go_upto_region 7 with fail
   go_wp2_with ((go_at_call 84;refine C6.mono ?_;rintro e w6 ⟨q', rfl,hf6,k6⟩;obtain ⟨y0,y1,y3,y2⟩:=HB.out w6 ((K4.trans' k5).trans' k6);obtain ⟨q0,q1,q2⟩:=y2 (.pointer none);have HQ:Hid (_∧_∧Zn _ _ _):=⟨q0,q1,Zn.keptN q2 y3.no.2.2.2.2.1 hf6⟩;clear q0 q1 q2 y2 y3 hf6))
   exact bodyPost_ret (v:=.tuple #[.agg #[.pointer none],.iface 114 (.pointer (some ⟨q', 0,none⟩))]) (by simp [results,results49,go_sem,HQ.out.1]) rfl ⟨_,_,none,rfl,.inr (.inl ⟨HA.out,K,z,HF.out,rfl⟩),HQ.out.2.2,HQ.out.2.1,(λ e=>by cases e),λ _=>⟨q', rfl⟩⟩
 ·obtain ⟨c,p,r,rfl⟩:∃ c p r,ws=(c,p) :: r:=by
   cases ws with
   | nil=>exact absurd rfl hws
   | cons x r=>exact ⟨x.1,x.2,r,rfl⟩
  have hp:p ≠ -1:=by
   rcases a2 with ⟨_,_,q⟩ | ⟨q,_⟩
   ·cases q
   ·exact q
  have C6:=Zem (code:=101) (HET.out w4 K4) a2 hp;have HA:Hid (Ans L R l ((c,p) :: r)∧p ≠ -1∧r.length<=1):=⟨a1,hp,by simp at a3;omega⟩;clear a1 a2 a3 a4 hws hp
  go_wp2_with ((go_at_call 84;refine C6.mono ?_;rintro e w6 ⟨q', rfl,hf6,k6⟩;obtain ⟨y0,y1,y3,y2⟩:=HB.out w6 (K4.trans' k6);obtain ⟨q0,q1,q2⟩:=y2 (.pointer none);have HQ:Hid (_∧_∧Zn _ _ _):=⟨q0,q1,Zn.keptN q2 y3.no.2.2.2.2.1 hf6⟩;clear q0 q1 q2 y2 y3 hf6))
  exact bodyPost_ret (v:=.tuple #[.agg #[.pointer none],.iface 114 (.pointer (some ⟨q', 0,none⟩))]) (by simp [results,results49,go_sem,HQ.out.1]) rfl ⟨_,_,none,rfl,.inl ⟨c,p,r,HA.out.1,HA.out.2.1,HA.out.2.2,rfl⟩,HQ.out.2.2,HQ.out.2.1,(λ e=>by cases e),λ _=>⟨q', rfl⟩⟩
end
section
open Go.RowKit
theorem Zqp {wb:World} {ops:Array Oper} {o:Oper} {a:Act} {K:Act->World->Prop} {Q:Exit->Act->World->Prop} {E:Prop} (hgd:o.guard=none) (s x:Operand) (t e:TypeId)
  (ho:o.op=.call { callee:=.builtin .append,args:=#[s,x],argTypes:=#[t,t] })
  (i:TypeInfo) (z:Value) (size bytes:Nat) (ht:prog.underlying t=some (.slice e)) (hi:prog.info? e=some i) (hz0:i.zero=some z) (hz1:i.size=size) (hz2:i.bytes=bytes) (hz3:z.cells.size=size) (hz4:0<size)
  (B:Nat) (hs:a.eval s=.slice (some ⟨B,0,none⟩) 0 0) (n:Nat) (news:List Value) (v:Value) (hx:a.eval x=v) (hrow:wb.ownsRow 0 e size v n news) (hW:Za wb W) (hB:W.heap[B]? = some (.cells #[] e (0,0))) (hb:wb.heap.size<=B) (hn:n<=1000) (hby:n * bytes<=140737488355328) (h1:∀ u∈news,u.oneCell' = true)
  (h:∀ v' w', w'.ownsRow wb.heap.size e size v' n news->Za wb w' -> (∀ q o,q≠B->W.heap[q]? = some o->w'.heap[q]? = some o)->K (a.put o.dst v') w') :
  if Region.wanted o (yielded ops a.tmps)=true then Oper.wp prog o a W K Q else E:=by
 have hw:Region.wanted o (yielded ops a.tmps)=true:=by simp [Region.wanted,hgd]
 have hE:W.ownsRow wb.heap.size e size (.slice (some ⟨B,0,none⟩) 0 0) 0 []:=⟨by simp,.inr ⟨B,0, #[],rfl,hb,hB,Nat.le_refl _,by unfold maxLen;omega,by simp,by simp⟩⟩;have hR:=hW.row hrow (λ _ _ f=>f)
 have fin:∀ v' w', w'.ownsRow wb.heap.size e size v' n news->W.grownBy w' (some B)->K (a.put o.dst v') w' := λ v' w' r g=>by
  have k:Zc (λ q=>q=B) W w' := Zc.grown (Zc.refl _ W) g (λ q e _=>by simp only [Option.some.injEq] at e;exact e.symm);exact h v' w' r (hW.trans k (λ i hi e=>by omega)) (λ q o hq ho=>k.at ho hq)
 rcases hR.2 with ⟨e0,n0⟩ | ⟨g,cap,cur,e0,hg⟩
 ·subst e0
  have hn0:n=0:=n0;subst hn0;have hnews:news=[]:=List.eq_nil_of_length_eq_zero (by simpa using hR.1);subst hnews;rw [if_pos hw];have hrun:=run_append_owned_none (P:=prog) W wb.heap.size t o.type e i size ht hi _ 0 [] hE;unfold Oper.wp;simp [execOp,ho,resolve,invoke,builtin,hs,hx,hrun,Result.andThen];exact fin _ W hE (World.grownBy.refl _ _)
 ·subst e0
  have hc:=hR.cells rfl
  by_cases hn0:n=0
  ·subst hn0
   have hnews:news=[]:=List.eq_nil_of_length_eq_zero (by simpa using hR.1);subst hnews;rw [if_pos hw];obtain ⟨w', hrun,r1,r2⟩:=run_append_fits (P:=prog) W wb.heap.size t o.type e i size ht hi hz1 B 0 0 [] hE ⟨g,0,none⟩ 0 cap [] (by simp) (λ j u hj=>by simp at hj) (λ u hu=>by cases hu) (by omega);unfold Oper.wp;simp [execOp,ho,resolve,invoke,builtin,hs,hx,hrun,Result.andThen];exact fin _ w' r1 r2
  ·refine step_append_lies _ hgd s x t ho wb.heap.size e i z size bytes ht hi hz0 hz1 hz2 hz3 hz4 (.slice (some ⟨B,0,none⟩) 0 0) 0 [] hs hE ⟨g,0,none⟩ n cap news hx hR.1 hc h1 (by omega) (by unfold maxLen;omega) (by simpa using hby) hW.size W.heap.size rfl ?_
   intro gg cc w' r g' _ _;simp only [Nat.zero_add,List.nil_append] at r ⊢;exact fin _ w' r g'
end
section
open Go.RowKit
attribute [local go_sem ↓] Go.wp_at_zero Go.wp_at_succ
end
section
open Go.RowKit
abbrev Fd:=Int × Int × List Int × Int × Int
section
variable {L : List Sym} {T : List Int} {a : Nat}
theorem Zh3 (hT:IsT L T) (ha:a<T.length):a+(Jr L T a).length=Zj L T a∧Zj L T a<=T.length:=by
 have h1:=Xs hT ha;rw [Zap hT ha];omega
theorem Zuw (hT:IsT L T) (ha:a<T.length) {p:Nat} (hp:p<=(Jr L T a).length):T.drop (a+p)=(Jr L T a).drop p++T.drop (Zj L T a):=by
 obtain ⟨h1,h2⟩:=Zh3 hT ha;have e:T.drop (a+p)=(T.take (Zj L T a)++T.drop (Zj L T a)).drop (a+p):=by rw [List.take_append_drop]
 rw [e,List.drop_append_of_le_length (by rw [List.length_take];omega)];unfold Jr;rw [List.drop_drop]
theorem at_sub (hT:IsT L T) (ha:a<T.length) {p:Nat} (hp:p<(Jr L T a).length) (hq:a+p<T.length):T[a+p]=(Jr L T a)[p]:=by
 have e:=Zuw hT ha (Nat.le_of_lt hp);rw [List.drop_eq_getElem_cons hq,List.drop_eq_getElem_cons hp] at e
 simpa using (List.cons.inj e).1
end
end
def Zh6 (L:List Sym):List Int->Nat->List Int->Bool
 | [],k,_=>decide (k=0)
 | n :: r,k,ts=>if k=0 then true else if 0<=n then (match ts with | []=>false | x :: ts' => decide (x=n) && Zh6 L r (k-1+arN L n) ts') else Zh6 L r (k-1) (ts.drop ((Xv L 1 ts).getD 0))
theorem Znb {n x:Int} (hn:0<=n):Zh6 L (n :: r) (k+1) (x :: ts)=(decide (x=n) && Zh6 L r (k+arN L n) ts):=by
 rw [Zh6,if_neg (by omega),if_pos hn,Nat.add_sub_cancel]
theorem Zwx {n:Int} (hn:¬ 0<=n) (h:Xv L 1 ts=some m):Zh6 L (n :: r) (k+1) ts=Zh6 L r k (ts.drop m):=by
 show (if k+1=0 then true else if 0<=n then _ else Zh6 L r (k+1-1) (ts.drop ((Xv L 1 ts).getD 0)))=_;rw [if_neg (by omega),if_neg hn,h,Nat.add_sub_cancel,Option.getD_some]
def fitA (L:List Sym) (p:List Int) (i:Nat) (t:List Int) (j:Nat):Bool:=Zh6 L (p.drop i) 1 (t.drop j)
def fitP8 (L:List Sym) (p:List Int) (t:List Int):List Nat->List Nat->Bool
 | i :: ps,j :: qs=>fitA L p i t j && fitP8 L p t ps qs
 | _,_=>true
def Zcy (L:List Sym) (U:List Int):List (List Int)->List Nat->Prop
 | [],[]=>True
 | p :: ps,q :: qs=>leads L U 0 p=some q∧Zcy L U ps qs
 | _,_=>False
theorem Zcy.append:∀ {a:List (List Int)} {b:List Nat} {c:List (List Int)} {d:List Nat},Zcy L U a b->Zcy L U c d->Zcy L U (a++c) (b++d)
 | [],[],_,_,_,h=>h
 | _ :: _,_ :: _,_,_,h,k=>⟨h.1,h.2.append k⟩
 | [],_ :: _,_,_,h,_=>h.elim
 | _ :: _,[],_,_,h,_=>h.elim
theorem Zcy.take:∀ {a:List (List Int)} {b:List Nat} (c:Nat),Zcy L U a b->Zcy L U (a.take c) (b.take c)
 | _,_,0,_=>by simp [Zcy]
 | [],[],c+1,_=>by simp [Zcy]
 | _ :: _,_ :: _,c+1,h=>⟨h.1,Zcy.take c h.2⟩
 | [],_ :: _,_+1,h=>h.elim
 | _ :: _,[],_+1,h=>h.elim
theorem Zcy.drop:∀ {a:List (List Int)} {b:List Nat} (c:Nat),Zcy L U a b->Zcy L U (a.drop c) (b.drop c)
 | _,_,0,h=>h
 | [],[],c+1,_=>by simp [Zcy]
 | _ :: _,_ :: _,c+1,h=>Zcy.drop c h.2
 | [],_ :: _,_+1,h=>h.elim
 | _ :: _,[],_+1,h=>h.elim
theorem Zcy.at:∀ {a:List (List Int)} {b:List Nat} {c:Nat},Zcy L U a b->∀ (h1:c<a.length) (h2:c<b.length),leads L U 0 a[c]=some b[c]
 | _ :: _,_ :: _,0,h,_,_=>h.1
 | _ :: _,_ :: _,c+1,h,h1,h2=>Zcy.at h.2 (by simpa using h1) (by simpa using h2)
 | [],_,_,_,h1,_=>by simp at h1
 | _ :: _,[],_,h,_,_=>h.elim
theorem Zgy (h:leads L U 0 p=some q):∀ (m:List Nat) (k:Nat),(∀ i (hi:i<m.length),(Z8 L U q)[k+i]? = some m[i])->Zcy L U ((List.range' k m.length).map (λ (i:Nat)=>p ++ [(i:Int)])) m
 | [],_,_=>by simp [Zcy]
 | x :: m,k,hm=>by
  rw [List.length_cons,List.range'_succ,List.map_cons];refine ⟨?_,Zgy h m (k+1) (λ i hi=>?_)⟩
  ·rw [Zjs h,leads,if_neg (by omega),Int.toNat_natCast]
   have:=hm 0 (by simp);simp only [Nat.add_zero,List.getElem_cons_zero] at this;rw [this];rfl
  ·have:=hm (i+1) (by simpa using hi)
   simpa [Nat.add_assoc,Nat.add_comm 1 i] using this
structure FitN (L:List Sym) (U:List Int) (paths:List (List Int)) (rows:List Rw) (qs:List Nat):Prop where
 led:Zcy L U paths qs
 lt:∀ q∈qs,q<U.length
 row:∀ x∈rows,IsT L x.2.1∧x.2.2.length=paths.length∧∀ i∈x.2.2,i<x.2.1.length
 low:∀ x∈rows,∀ k (h:k<x.2.1.length),0<k->Xe L x.2.1[k]=false
 inj:∀ x∈rows,∀ y∈rows,x.1=y.1->x=y
def fitX (L:List Sym) (U:List Int) (x:Rw) (qs:List Nat):Bool:=fitP8 L x.2.1 U x.2.2 qs
section
variable {L : List Sym} {U : List Int} {paths : List (List Int)} {rows : List Rw} {qs : List Nat}
end
end Go.Proofs.YtmjgnfkbnofjoaaGreatDoor
