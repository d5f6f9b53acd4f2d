import Derived.WalkKit
import Derived.Test.YtjahpnbijefncaaGreatCC25
namespace Go.Proofs.YtjahpnbijefncaaGreat
set_option maxRecDepth 100000
set_option linter.unusedVariables false
set_option maxHeartbeats 16000000
section
open Go.RowKit
attribute [local go_sem ↓] Go.wp_at_zero Go.wp_at_succ
def RvC (base:Nat) (W:World) (cs:List Value) (Q:List (List (Int × List Int))):Prop:=
 cs.length=Q.length∧∀ i (h:i<Q.length),∃ v,cs[i]? = some v∧PtV base W v Q[i]
def Ziy (L:List Sym) (R:List Ru) (k:Nat):Prop:=∀ j,j<k->Y7 L (j:Int)=true->∃ t,X5 L R j=.ok t
def J8 (L:List Sym) (R:List Ru) (w:World) (e:Ending) (w' : World):Prop:=
 Za w w' ∧ ((Ziy L R L.length∧∃ vi vp ev rv cs,e=.returned (.tuple #[.agg #[vi,vp,ev,rv],.slice none 0 0])∧Lay (λ q=>q<w.heap.size) w' vi vp (Zk L R L.length).1∧Row w.heap.size w' ev (Zk L R L.length).2∧w'.ownsRow w.heap.size 62 1 rv R.length cs∧RvC w.heap.size w' cs (Zj L R))
  ∨ ∃ K z v,K<L.length∧Y7 L (K:Int)=true∧Ziy L R K∧X5 L R K=.error z∧e=.returned (.tuple #[.agg #[.slice none 0 0,.slice none 0 0,.slice none 0 0,.slice none 0 0],v])∧Y5 w' v [(81,(K:Int)),(82,z)]∧Zrw w v)
theorem PtV.kept {base:Nat} {w w' : World} {v:Value} {Q:List (Int × List Int)} {S:Nat->Prop} (h:PtV base w v Q) (hk:Zc S w w') (hS:∀ k,S k->(∀ cur,w.heap[k]? ≠ some (.cells cur 3 (0,0)))∧∀ cur,w.heap[k]? ≠ some (.cells cur 77 (0,0))):PtV base w' v Q:=by
 obtain ⟨vs,h1,h2⟩:=h;refine ⟨vs,hk.row h1 (λ q e s=>?_),h2.kept hk (λ k s=>(hS k s).1)⟩;obtain ⟨cur,hc⟩:=Zo h1 e;exact (hS q s).2 cur hc
theorem RvC.kept {base:Nat} {w w' : World} {cs:List Value} {Q:List (List (Int × List Int))} {S:Nat->Prop} (h:RvC base w cs Q) (hk:Zc S w w') (hS:∀ k,S k->(∀ cur,w.heap[k]? ≠ some (.cells cur 3 (0,0)))∧∀ cur,w.heap[k]? ≠ some (.cells cur 77 (0,0))):RvC base w' cs Q:=
 ⟨h.1,λ i hi=>by
  obtain ⟨v,a,b⟩:=h.2 i hi
  exact ⟨v,a,b.kept hk hS⟩⟩
theorem RvC.low {base base' : Nat} {w:World} {cs:List Value} {Q:List (List (Int × List Int))} (h:RvC base w cs Q) (hb:base' <= base):RvC base' w cs Q:=
 ⟨h.1,λ i hi=>by
  obtain ⟨v,a,b⟩:=h.2 i hi
  exact ⟨v,a,b.low hb⟩⟩
theorem RvC.snoc {base:Nat} {w:World} {cs:List Value} {Q:List (List (Int × List Int))} (h:RvC base w cs Q) {v:Value} {q:List (Int × List Int)} (hv:PtV base w v q):RvC base w (cs ++ [v]) (Q ++ [q]):=by
 refine ⟨by simp [h.1],λ i hi=>?_⟩
 by_cases hl:i<Q.length
 ·obtain ⟨u,a,b⟩:=h.2 i hl
  rw [List.getElem_append_left hl];exact ⟨u,by rw [List.getElem?_append_left (by rw [h.1];omega)];exact a,b⟩
 ·obtain rfl:i=Q.length:=by simp at hi;omega
  refine ⟨v,?_,by simpa using hv⟩;rw [List.getElem?_append_right (by rw [h.1];omega),h.1];simp
structure CoK (W5:World) (cb:Nat) (vi vp ev:Value) (L:List Sym) (R:List Ru) (i:Nat) (W:World) (rv:Value) (cs:List Value):Prop where
 kp:Zc (λ q=>q=cb) W5 W
 bx:W.heap[cb]? = some (.cells #[vi,vp,ev,rv] 51 (0,0))
 row:W.ownsRow W5.heap.size 62 1 rv i cs
 pts:RvC W5.heap.size W cs (Zj L (R.take i))
theorem Zhx (L:List Sym) (R:List Ru) {i:Nat} (hi:i<R.length):Zj L (R.take (i+1))=Zj L (R.take i) ++ [Yf L R[i]]:=by
 unfold Zj;rw [List.take_add_one,List.getElem?_eq_getElem hi,List.map_append];rfl
theorem CoK.more {W5 W X w2:World} {cb:Nat} {vi vp ev rv rv' v:Value} {L:List Sym} {R:List Ru} {i:Nat} {cs:List Value} (h:CoK W5 cb vi vp ev L R i W rv cs) (hcb:cb<W5.heap.size) (hi:i<R.length) (hX:Za W X) (hv:PtV W5.heap.size X v (Yf L R[i])) (hr:w2.ownsRow W5.heap.size 62 1 rv' (i+1) (cs ++ [v])) (hk:Zc (λ q=>rv.ownBlock=some q) X w2) :
  w2.heap[cb]? = some (.cells #[vi,vp,ev,rv] 51 (0,0))∧CoK W5 cb vi vp ev L R (i+1) (w2.setCell ⟨cb,3,none⟩ rv') rv' (cs ++ [v]):=by
 have hXr:=hX.row h.row (λ _ _ f=>f);have hXb:=hX.at0 h.bx;have ne:¬ rv.ownBlock=some cb:=λ e=>by have:=Y0 h.row e;omega
 have b2:=hk.at hXb ne;have ks:=Zt w2 cb 3 rv';have kk:Zc (λ q=>rv.ownBlock=some q∨q=cb) X (w2.setCell ⟨cb,3,none⟩ rv'):=Zc.trans (hk.mono (λ _ _ e=>.inl e)) ks (λ _ _ e=>.inr e)
 have ty:∀ k,(rv.ownBlock=some k∨k=cb)->(∀ cur,X.heap[k]? ≠ some (.cells cur 3 (0,0)))∧∀ cur,X.heap[k]? ≠ some (.cells cur 77 (0,0)):=λ k e=>by
  rcases e with e | e
  ·obtain ⟨cur,hc⟩:=Zo hXr e
   exact ⟨λ cur' h' => (by rw [hc] at h'; cases h'),λ cur' h' => (by rw [hc] at h'; cases h')⟩
  ·rw [e]
   exact ⟨λ cur' h' => (by rw [hXb] at h'; cases h'),λ cur' h' => (by rw [hXb] at h'; cases h')⟩
 refine ⟨b2,Zc.trans (Zc.trans h.kp hX (λ _ _ f=>f.elim)) kk (λ q hq e=>?_),by rw [Zs b2];rfl,ks.row hr (λ q e e2=>?_),?_⟩
 ·rcases e with e | e
  ·have:=Y0 h.row e;omega
  ·exact e
 ·have e3:q=cb:=e2
  have:=Y0 hr e;omega
 ·rw [Zhx L R hi]
  exact ((h.pts.kept hX (λ _ f=>f.elim)).snoc hv).kept kk ty
theorem Zdg {w0 W:World} {ops:Array Oper} {o:Oper} {a:Act} {K:Act->World->Prop} {Q:Exit->Act->World->Prop} {E:Prop} (hgd:o.guard=none) (s x:Operand)
  (ho:o.op=.call { callee:=.builtin .append,args:=#[s,x],argTypes:=#[49,49] }) (base N:Nat) (cs:List Value) (v:Value) (hs:a.eval s=v) (hW:Za w0 W) (hr:w0.ownsRow base 62 1 v N cs) (u:Value) (H:Nat) (hx:a.eval x=.slice (some ⟨H,0,none⟩) 1 1) (hH:W.heap[H]? = some (.cells #[u] 62 (0,0))) (h1:u.oneCell' = true) (hb:base<=w0.heap.size) (hN:N<=1000)
  (h:∀ g cap w', w'.ownsRow base 62 1 (.slice (some ⟨g,0,none⟩) (N+1) cap) (N+1) (cs ++ [u])->Zc (λ q=>v.ownBlock=some q) w0 w' -> K (a.put o.dst (.slice (some ⟨g,0,none⟩) (N+1) cap)) w') :
  if Region.wanted o (yielded ops a.tmps)=true then Oper.wp Tryz.prog o a W K Q else E:=by
 obtain ⟨i,hi,hz0,hz1,hz2⟩:=info_parts Zd2;refine step_append_lies _ hgd s x 49 ho base 62 i _ 1 24 Tryz.underlying49 hi hz0 hz1 hz2 rfl (by decide) v N cs hs (hW.row hr (λ _ _ f=>f)) ⟨H,0,none⟩ 1 1 [u] hx rfl (World.news_of_block (cs:=#[u]) (t:=62) (fr:=(0,0)) hH) (by simp [h1]) (by omega) (by unfold maxLen;omega) (by omega) (Nat.le_trans hb hW.size) W.heap.size rfl ?_;intro g cap w' hown hgrow hat hlt;exact h g cap w' hown (Zc.grown (Zc.mono (S' := λ q=>v.ownBlock=some q) hW (λ _ _ f=>f.elim)) hgrow (λ _ e _=>e))
theorem Ziy.step_no {L:List Sym} {R:List Ru} {k:Nat} (h:Ziy L R k) (hd:Y7 L (k:Int)=false):Ziy L R (k+1):=λ j hj hdj=>by
 by_cases e:j=k
 ·subst e;rw [hd] at hdj;cases hdj
 ·exact h j (by omega) hdj
theorem Ziy.step_yes {L:List Sym} {R:List Ru} {k:Nat} (h:Ziy L R k) {t:Tr 2001} (ht:X5 L R k=.ok t):Ziy L R (k+1):=λ j hj hdj=>by
 by_cases e:j=k
 ·subst e;exact ⟨t,ht⟩
 ·exact h j (by omega) hdj
abbrev Va:Obj:=.cells #[.slice none 0 0,.slice none 0 0,.slice none 0 0,.slice none 0 0] 51
theorem Zcl {w:World} {rv:Value} {L:List Sym} {R:List Ru} {mo:Option Addr} (h:Rl w.heap.size w rv L) (hR:V7 w mo R) (hle:R.length<=100) (hok:∀ x∈R,Ze L x.1=0∧Ze L x.2=0) (hv:∀ x∈R,∀ y∈x.2,y<0->y∈x.1) (mc:Nat) :
  Calls Tryz.prog 15 #[rv,.slice mo R.length mc] w (J8 L R w):=by
 have hArs:=h.2.2.1;have hL64:=h.2.2.2;obtain ⟨ro,rcap,rfl⟩:=Zf h.1;obtain ⟨W2,hW2⟩:∃ W2,W2=(w.alloc Va).alloc Va:=⟨_,rfl⟩;have KW:Za w W2:=by rw [hW2];exact ((Zc.refl _ w).alloc _).alloc _
 have ez:W2.heap.size=w.heap.size+1+1:=by rw [hW2];simp
 have rb0:W2.heap[w.heap.size]? = some (.cells #[.slice none 0 0,.slice none 0 0,.slice none 0 0,.slice none 0 0] 51 (0,0)):=by
  have k1:Za (w.alloc Va) W2:=by rw [hW2];exact (Zc.refl _ _).alloc _
  exact k1.at0 (heap_alloc_new w _)
 have cb0:W2.heap[w.heap.size+1]? = some (.cells #[.slice none 0 0,.slice none 0 0,.slice none 0 0,.slice none 0 0] 51 (0,0)):=by rw [hW2];exact Zp _ _ _
 have HS:Hid (∀ X,Zc (λ q=>q=w.heap.size+1) W2 X->Za w X):=λ X hk=>Zc.trans KW hk (λ i hi e=>by have e' : i=w.heap.size+1:=e;omega);have HRB:Hid (∀ X,Zc (λ q=>q=w.heap.size+1) W2 X->X.heap[w.heap.size]? = some (.cells #[.slice none 0 0,.slice none 0 0,.slice none 0 0,.slice none 0 0] 51 (0,0))):=λ X hk=>hk.at rb0 (λ e=>by have e' : w.heap.size=w.heap.size+1:=e;omega)
 have GD:Hid (∀ X i (hi:i<L.length),Za w X->∃ g,ro=some ⟨g,0,none⟩∧X.cell? ⟨g,i * 3+2,none⟩=some (.bool (Y7 L (i:Int)))):=λ X i hi hk=>by
  have h1:=(h.same hk).1
  rcases h1.2 with ⟨_,h0⟩ | ⟨g,cap,cur,e,_,hg,_⟩
  ·omega
  ·simp only [Value.slice.injEq,true_and] at e
   obtain ⟨rfl,rfl⟩:=e;have hc:=h1.cells (g:=g) rfl _ _ (Kc hi).2.2;rw [Xq,Nat.zero_add] at hc;exact ⟨g,rfl,by rw [Zbv hi];exact hc⟩
 have BD:Hid (∀ X (k:Nat),Za w X->Calls Tryz.prog 9 #[.slice ro L.length rcap,.slice mo R.length mc,.int .i64 (k:Int)] X (Jb L R (k:Int) X)):=λ X k hk=>Zj8 (Ze4 (h.same hk) hk.size) (hR.same hk) hle hok mc (k:Int)
 have SM:Hid (∀ k,k<=L.length->(Zk L R k).1.1.length+(Zk L R k).1.2.length<=64 * 1000000∧(Zk L R k).2.length<=64):=λ k hk=>by
  obtain ⟨a,b⟩:=Ju hArs hL64 hle hok k hk;exact ⟨Nat.le_trans a (Nat.mul_le_mul_right _ (by omega)),by omega⟩
 have ST:Hid (∀ k (t:Tr 2001),k<L.length->X5 L R k=.ok t->Za6 2001 t<=100000000):=λ k t hk ht=>by
  have:=Ku hArs hL64 hle hok hk ht;omega
 have RP:Hid (∀ i (hi:i<R.length),∃ b off ao ac bo bc,mo=some ⟨b,off,none⟩∧Hid (∀ Y,Za w Y->(Y.cell? ⟨b,off+i * 2,none⟩=some (.slice ao R[i].1.length ac)∧Y.cell? ⟨b,off+i * 2+1,none⟩=some (.slice bo R[i].2.length bc))∧Calls Tryz.prog 53 #[.slice ro L.length rcap,.agg #[.slice ao R[i].1.length ac,.slice bo R[i].2.length bc]] Y λ e Z=>∃ po pn pc,e=.returned (.slice po pn pc)∧Hid (PtV Y.heap.size Z (.slice po pn pc) (Yf L R[i]))∧Za Y Z)):=λ i hi=>by
  obtain ⟨b,off,e,hb,ao,ac,bo,bc,h1,h2,h3,h4⟩:=hR.get hi;refine ⟨b,off,ao,ac,bo,bc,e,λ Y hY=>⟨⟨(hY.cell (p:=⟨b,off+i * 2,none⟩) hb (λ f=>f)).trans h1,(hY.cell (p:=⟨b,off+i * 2+1,none⟩) hb (λ f=>f)).trans h2⟩,?_⟩⟩;have hx:=List.getElem_mem hi;have hln:=(Xv (hok _ hx)).2.2;refine (Zmr (Ze4 (h.same hY) hY.size) (h3.at'.same hY) (h4.at'.same hY) (hok _ hx).1 hln (hv _ hx)).mono ?_;rintro e Z ⟨v,rfl,g1,g2⟩;obtain ⟨po,pc,rfl⟩:=g1.shape;exact ⟨po,_,pc,rfl,g1,g2⟩
 have START:Hid (CoJ L R W2 (w.heap.size+1) 0 W2 (.slice none 0 0) (.slice none 0 0) (.slice none 0 0)):=⟨Zc.refl _ _,cb0,World.ownsRow_nil _ _ _ _,Lay.nil _ _⟩;have HCB:Hid (w.heap.size+1<W2.heap.size):=by show _<_;omega
 have HMS:Hid (w.heap.size<W2.heap.size):=by show _<_;omega
 clear KW ez rb0 cb0 h hok hArs
 go_enter Tryz.func15,Tryz.ntmps15
 go_upto_region 2 with fail
 rw [<- hW2];clear hW2
 go_wp2_with fail
 go_loopw [7,8,9] (λ vi vp nv wr=>∃ (k:Nat) (ev:Value),k<=L.length∧nv=.int .i64 (k:Int)∧Hid (CoJ L R W2 (w.heap.size+1) k wr ev vi vp)∧Hid (Ziy L R k)) (λ _ _ nv _=>L.length-(intOf nv).toNat)
 case atStart=>exact ⟨0,_,Nat.zero_le _,rfl,START.out,λ j hj=>by omega⟩
 case round=>
  clear START;obtain ⟨k,ev,hk,rfl,hJ,hT⟩:=hrel;obtain ⟨eo,ec,rfl⟩:=Zf hJ.out.row;obtain ⟨io,ic,po,pc,rfl,rfl⟩:=Kv hJ.out.lay;have hs:=HS.out wr hJ.out.kp
  by_cases hlt:k<L.length
  ·obtain ⟨g,rfl,hc⟩:=GD.out wr k hlt hs
   have i1:(0:Int)<=(k:Int):=by omega
   have i2:(k:Int)<(L.length:Int):=by omega
   cases hd:Y7 L (k:Int) with
   | false=>
    rw [hd] at hc
    have PASS:Hid (∀ w2 ev', Row W2.heap.size w2 ev' ((Zk L R k).2 ++ [-1])->Zc (λ q=>(Value.slice eo (Zk L R k).2.length ec).ownBlock=some q) wr w2->(∀ q,ev'.ownBlock=some q->(Value.slice eo (Zk L R k).2.length ec).ownBlock=some q∨wr.heap.size<=q)->(w2.cell? ⟨w.heap.size+1,2,none⟩=some (.slice eo (Zk L R k).2.length ec)∧w2.frozen? ⟨w.heap.size+1,2,none⟩=false)∧Hid (CoJ L R W2 (w.heap.size+1) (k+1) (w2.setCell ⟨w.heap.size+1,2,none⟩ ev') ev' (.slice io (Zk L R k).1.1.length ic) (.slice po (Zk L R k).1.2.length pc))):=λ w2 ev' h1 h2 h3=>by
     obtain ⟨q1,q2⟩:=CoJ.pass hd hJ.out h1 h2 h3;exact ⟨⟨Zb q1 2,Zd q1 2⟩,q2⟩
    have c2:wr.cell? ⟨w.heap.size+1,2,none⟩=some (.slice eo (Zk L R k).2.length ec):=Zb hJ.out.bx 2;have hrow:Row W2.heap.size wr (.slice eo (Zk L R k).2.length ec) (Zk L R k).2:=hJ.out.row;have hz:=hJ.out.kp.size;have hb8:((Zk L R k).2.length+1) * 8<=140737488355328:=by have:=(SM.out k hk).2;omega
    have HT2:Hid (Ziy L R (k+1)):=hT.out.step_no hd;clear hJ hT hd hs;generalize (Zk L R k).2=E at *;generalize (Zk L R k).1.1.length=I0 at *;generalize (Zk L R k).1.2.length=P0 at *
    go_wp2_with (first | (at_builtin;refine Yo rfl _ _ 32 rfl Tryz.underlying32 W2.heap.size E _ rfl hrow (-1) rfl hz hb8 ?_;intro g2 gcap w4 hr4 hk4 hat4;obtain ⟨⟨n1,n2⟩,J4⟩:=PASS.out w4 _ hr4 hk4 (λ q e=>by simp only [Value.ownBlock,Option.some.injEq] at e;subst e;exact hat4)))
    go_roundw
    case rel=>exact ⟨k+1,_,by omega,by go_num,J4,HT2⟩
    case measure=>simp [intOf];omega
   | true=>
    rw [hd] at hc;have CB:=BD.out wr k hs;cases ht:X5 L R k with
    | error z=>
     have CE:Calls Tryz.prog 9 #[.slice (some ⟨g,0,none⟩) L.length rcap,.slice mo R.length mc,.int .i64 (k:Int)] wr λ e w' => ∃ wo wc,e=.returned (.tuple #[Ki,.slice wo 2 wc])∧Hid (Y5 w' (.slice wo 2 wc) [(81,(k:Int)),(82,z)]∧Zrw wr (.slice wo 2 wc))∧Za wr w' := by
      refine CB.mono ?_;rintro e w' ⟨h1,h2⟩;rw [if_pos hd,Int.toNat_natCast,ht] at h2;obtain ⟨v,rfl,h3,h4⟩:=h2;obtain ⟨lo,lc,rfl,h5⟩:=h3;exact ⟨lo,lc,rfl,⟨⟨lo,lc,rfl,h5⟩,h4⟩,h1⟩
     have HP:Hid (∀ (w5:World) v,Za wr w5->Y5 w5 v [(81,(k:Int)),(82,z)]->Zrw wr v->(w5.cell? ⟨w.heap.size,0,none⟩=some (.slice none 0 0)∧w5.cell? ⟨w.heap.size,1,none⟩=some (.slice none 0 0)∧w5.cell? ⟨w.heap.size,2,none⟩=some (.slice none 0 0)∧w5.cell? ⟨w.heap.size,3,none⟩=some (.slice none 0 0)∧w5.frozen? ⟨w.heap.size,0,none⟩=false∧w5.frozen? ⟨w.heap.size,1,none⟩=false∧w5.frozen? ⟨w.heap.size,2,none⟩=false∧w5.frozen? ⟨w.heap.size,3,none⟩=false)∧∃ Z,Hid (Z=(((w5.setCell ⟨w.heap.size,0,none⟩ (.slice none 0 0)).setCell ⟨w.heap.size,1,none⟩ (.slice none 0 0)).setCell ⟨w.heap.size,2,none⟩ (.slice none 0 0)).setCell ⟨w.heap.size,3,none⟩ (.slice none 0 0))∧Hid ((Z.cell? ⟨w.heap.size,0,none⟩=some (.slice none 0 0)∧Z.cell? ⟨w.heap.size,1,none⟩=some (.slice none 0 0)∧Z.cell? ⟨w.heap.size,2,none⟩=some (.slice none 0 0)∧Z.cell? ⟨w.heap.size,3,none⟩=some (.slice none 0 0))∧J8 L R w (.returned (.tuple #[.agg #[.slice none 0 0,.slice none 0 0,.slice none 0 0,.slice none 0 0],v])) Z)):=by
      intro w5 v h1 h2 h3;have b5:=h1.at0 (HRB.out wr hJ.out.kp);obtain ⟨p1,p2⟩:=Zad b5 (.slice none 0 0) (.slice none 0 0) (.slice none 0 0) (.slice none 0 0);have zz:=hJ.out.kp.size;have zm:=HMS.out;refine ⟨⟨Zb b5 0,Zb b5 1,Zb b5 2,Zb b5 3,Zd b5 0,Zd b5 1,Zd b5 2,Zd b5 3⟩,_,rfl,⟨Zb p1 0,Zb p1 1,Zb p1 2,Zb p1 3⟩,?_⟩;refine ⟨Zc.trans (hs.trans' h1) p2 (λ i hi e=>by have e' : i=w.heap.size:=e;omega),.inr ⟨k,z,v,hlt,hd,hT.out,ht,rfl,h2.kept8 p2 (λ b ⟨l,c,e⟩ e2=>?_),λ a l c e=>Nat.le_trans hs.size (h3 a l c e)⟩⟩;have h4:wr.heap.size<=b:=h3 _ l c e;have e' : b=w.heap.size:=e2;omega
     clear hJ hT hd ht hs CB BD SM ST GD HRB
     go_upto_region 10 with (first | (go_at_call 9;refine CE.mono ?_;rintro e w3 ⟨wo,wc,rfl,hE,k3⟩))
     obtain ⟨w5,hw5⟩:∃ w5,w5=w3.alloc Z1:=⟨_,rfl⟩;have k5:Za wr w5:=by rw [hw5];exact Zc.alloc k3 _
     have hW5:Y5 w5 (.slice wo 2 wc) [(81,(k:Int)),(82,z)]:=by rw [hw5];exact hE.out.1.same ((Zc.refl _ _).alloc _)
     obtain ⟨⟨r0,r1,r2,r3,f0,f1,f2,f3⟩,Z,hZ,GG⟩:=HP.out w5 _ k5 hW5 hE.out.2;rw [<- hw5];clear hw5 hE hW5 k5 k3 HP CE;go_wp2;obtain ⟨⟨g0,g1,g2,g3⟩,HF⟩:=GG.out;rw [hZ.out] at g0 g1 g2 g3 HF;exact bodyPost_ret (v:=.tuple #[.agg #[.slice none 0 0,.slice none 0 0,.slice none 0 0,.slice none 0 0],.slice wo 2 wc]) (by simp [results,Tryz.results15,go_sem,g0,g1,g2,g3]) rfl HF
    | ok t=>
     have CE:Calls Tryz.prog 9 #[.slice (some ⟨g,0,none⟩) L.length rcap,.slice mo R.length mc,.int .i64 (k:Int)] wr λ e w' => ∃ tk tr tpo tpl tpc tko tkl tkc,e=.returned (.tuple #[.agg #[.int .i64 tk,.int .i64 tr,.slice tpo tpl tpc,.slice tko tkl tkc],.slice none 0 0])∧Hid (CsB (λ b=>wr.heap.size<=b) w' 2001 (.agg #[.int .i64 tk,.int .i64 tr,.slice tpo tpl tpc,.slice tko tkl tkc]) t)∧Za wr w' := by
      refine CB.mono ?_;rintro e w' ⟨h1,h2⟩;rw [if_pos hd,Int.toNat_natCast,ht] at h2;obtain ⟨v,rfl,h3⟩:=h2;obtain ⟨tk,tr,tpo,tpl,tpc,tko,tkl,tkc,rfl⟩:=CsB.shape h3;exact ⟨tk,tr,tpo,tpl,tpc,tko,tkl,tkc,rfl,h3,h1⟩
     have LAID:Hid (∀ (w5:World) (b5:Nat) tk tr tpo tpl tpc tko tkl tkc,Za wr w5->wr.heap.size<=b5->w5.heap[b5]? = some (.cells #[.int .i64 tk,.int .i64 tr,.slice tpo tpl tpc,.slice tko tkl tkc] 35 (0,0))->CsB (λ b=>wr.heap.size<=b) w5 2001 (.agg #[.int .i64 tk,.int .i64 tr,.slice tpo tpl tpc,.slice tko tkl tkc]) t ->
       w5.cell? ⟨w.heap.size+1,2,none⟩=some (.slice eo (Zk L R k).2.length ec)∧Hid (Row W2.heap.size w5 (.slice eo (Zk L R k).2.length ec) (Zk L R k).2)∧W2.heap.size<=w5.heap.size∧Hid (∀ w2 ev', Row W2.heap.size w2 ev' ((Zk L R k).2 ++ [((Zk L R k).1.1.length:Int)])->Zc (λ q=>(Value.slice eo (Zk L R k).2.length ec).ownBlock=some q) w5 w2->(∀ q,ev'.ownBlock=some q->(Value.slice eo (Zk L R k).2.length ec).ownBlock=some q∨w5.heap.size<=q) ->
        (w2.cell? ⟨w.heap.size+1,2,none⟩=some (.slice eo (Zk L R k).2.length ec)∧w2.frozen? ⟨w.heap.size+1,2,none⟩=false)∧(w2.cell? ⟨b5,0,none⟩=some (.int .i64 tk)∧w2.cell? ⟨b5,1,none⟩=some (.int .i64 tr)∧w2.cell? ⟨b5,2,none⟩=some (.slice tpo tpl tpc)∧w2.cell? ⟨b5,3,none⟩=some (.slice tko tkl tkc))∧∃ Y,Hid (Y=w2.setCell ⟨w.heap.size+1,2,none⟩ ev')∧(Y.cell? ⟨b5,0,none⟩=some (.int .i64 tk)∧Y.cell? ⟨b5,1,none⟩=some (.int .i64 tr)∧Y.cell? ⟨b5,2,none⟩=some (.slice tpo tpl tpc)∧Y.cell? ⟨b5,3,none⟩=some (.slice tko tkl tkc))∧Calls Tryz.prog 52 #[.agg #[.int .i64 tk,.int .i64 tr,.slice tpo tpl tpc,.slice tko tkl tkc],.slice io (Zk L R k).1.1.length ic,.slice po (Zk L R k).1.2.length pc] Y λ e Z=>∃ vi' vp', e=.returned (.tuple #[vi', vp'])∧Hid (CoJ L R W2 (w.heap.size+1) (k+1) Z ev' vi' vp'))):=by
      intro w5 b5 tk tr tpo tpl tpc tko tkl tkc h1 hb h2 h3;have J5:=hJ.out.up h1;refine ⟨Zb J5.bx 2,J5.row,J5.kp.size,λ w2 ev' g1 g2 g3=>?_⟩;have hsm:=(SM.out k hk).1;have hst:=ST.out k t hlt ht;obtain ⟨q1,q2,q3⟩:=CoJ.laid hd ht HCB.out (by omega) hJ.out h1 h3 g1 g2 g3;have n2:w2.heap[b5]? = _:=g2.at h2 (λ e=>by have:=Y3 hJ.out.row e;omega);have nY:(w2.setCell ⟨w.heap.size+1,2,none⟩ ev').heap[b5]? = _:=q2.at h2 (λ e=>by omega);exact ⟨⟨Zb q1 2,Zd q1 2⟩,⟨Zb n2 0,Zb n2 1,Zb n2 2,Zb n2 3⟩,_,rfl,⟨Zb nY 0,Zb nY 1,Zb nY 2,Zb nY 3⟩,q3⟩
     have hb8:((Zk L R k).2.length+1) * 8<=140737488355328:=by have:=(SM.out k hk).2;omega
     have HT2:Hid (Ziy L R (k+1)):=hT.out.step_yes ht;clear hJ hT hd ht hs CB BD SM ST GD HRB;generalize (Zk L R k).2=E at *;generalize (Zk L R k).1.1.length=I0 at *;generalize (Zk L R k).1.2.length=P0 at *
     go_upto_region 10 with (first | (go_at_call 9;refine CE.mono ?_;rintro e w3 ⟨tk,tr,tpo,tpl,tpc,tko,tkl,tkc,rfl,hcs,k3⟩))
     obtain ⟨w5,hw5⟩:∃ w5,w5=w3.alloc (.cells #[.int .i64 tk,.int .i64 tr,.slice tpo tpl tpc,.slice tko tkl tkc] 35):=⟨_,rfl⟩;have k35:Za w3 w5:=by rw [hw5];exact (Zc.refl _ _).alloc _
     have b5:w5.heap[w3.heap.size]? = some (.cells #[.int .i64 tk,.int .i64 tr,.slice tpo tpl tpc,.slice tko tkl tkc] 35 (0,0)):=by rw [hw5];exact heap_alloc_new _ _
     obtain ⟨c2,hrow,hz,LL⟩:=LAID.out w5 w3.heap.size tk tr tpo tpl tpc tko tkl tkc (k3.trans' k35) k3.size b5 (hcs.out.same k35);rw [<- hw5];clear hw5 LAID CE hcs b5 k35
     go_upto_region 13 with (first | (at_builtin;refine Yo rfl _ _ 32 rfl Tryz.underlying32 W2.heap.size E _ rfl hrow.out (I0:Int) rfl hz hb8 ?_;intro g2 gcap w4 hr4 hk4 hat4;obtain ⟨⟨n1,n2⟩,⟨m0,m1,m2,m3⟩,Y,hY,⟨y0,y1,y2,y3⟩,CF⟩:=LL.out w4 _ hr4 hk4 (λ q e=>by simp only [Value.ownBlock,Option.some.injEq] at e;subst e;exact hat4)))
     rw [<- hY.out];clear hY LL
     go_wp2_with (first | (go_at_call 52;refine CF.mono ?_;rintro e w6 ⟨vi', vp', rfl,J6⟩))
     go_roundw
     case rel=>exact ⟨k+1,_,by omega,by go_num,J6,HT2⟩
     case measure=>simp [intOf];omega
  ·obtain rfl:k=L.length:=by omega
   have J:=hJ.out;have hcb:=HCB.out;have hms:=HMS.out;obtain ⟨W5,hW5⟩:∃ W5,W5=(wr.setCell ⟨w.heap.size+1,0,none⟩ (.slice io (Zk L R L.length).1.1.length ic)).setCell ⟨w.heap.size+1,1,none⟩ (.slice po (Zk L R L.length).1.2.length pc):=⟨_,rfl⟩;have k5:Zc (λ q=>q=w.heap.size+1) wr W5:=by rw [hW5];exact Zc.trans (Zt wr (w.heap.size+1) 0 _) (Zt _ (w.heap.size+1) 1 _) (λ _ _ e=>e)
   have bx5:W5.heap[w.heap.size+1]? = some (.cells #[.slice io (Zk L R L.length).1.1.length ic,.slice po (Zk L R L.length).1.2.length pc,.slice eo (Zk L R L.length).2.length ec,.slice none 0 0] 51 (0,0)):=by
    rw [hW5,Zs (Zs J.bx 0 _) 1 _];rfl
   have hz5:W2.heap.size<=W5.heap.size:=Nat.le_trans J.kp.size k5.size;have K25:Zc (λ q=>q=w.heap.size+1) W2 W5:=Zc.trans J.kp k5 (λ _ _ e=>e)
   have neE:∀ q,(Value.slice eo (Zk L R L.length).2.length ec).ownBlock=some q->¬ q=w.heap.size+1:=λ q e e2=>by
    obtain ⟨cur,hc⟩:=Zo J.row e;rw [e2,J.bx] at hc;cases hc
   have row5:Row W2.heap.size W5 (.slice eo (Zk L R L.length).2.length ec) (Zk L R L.length).2:=k5.row J.row neE;have lay5:=J.lay.keptB k5 (λ q e=>by have e' : q=w.heap.size+1:=e;exact .inr (.inl e'));have START2:Hid (CoK W5 (w.heap.size+1) (.slice io (Zk L R L.length).1.1.length ic) (.slice po (Zk L R L.length).1.2.length pc) (.slice eo (Zk L R L.length).2.length ec) L R 0 W5 (.slice none 0 0) []):=⟨Zc.refl _ _,bx5,World.ownsRow_nil _ _ _ _,rfl,λ i hi=>absurd hi (by simp [Zj])⟩;have c0:wr.cell? ⟨w.heap.size+1,0,none⟩=some (.slice none 0 0):=Zb J.bx 0;have c1:wr.cell? ⟨w.heap.size+1,1,none⟩=some (.slice none 0 0):=Zb J.bx 1;have f0:=Zd J.bx 0;have f1:=Zd J.bx 1
   have END:Hid (∀ wr2 rv cs,CoK W5 (w.heap.size+1) (.slice io (Zk L R L.length).1.1.length ic) (.slice po (Zk L R L.length).1.2.length pc) (.slice eo (Zk L R L.length).2.length ec) L R R.length wr2 rv cs ->
     (wr2.cell? ⟨w.heap.size+1,0,none⟩=some (.slice io (Zk L R L.length).1.1.length ic)∧wr2.cell? ⟨w.heap.size+1,1,none⟩=some (.slice po (Zk L R L.length).1.2.length pc)∧wr2.cell? ⟨w.heap.size+1,2,none⟩=some (.slice eo (Zk L R L.length).2.length ec)∧wr2.cell? ⟨w.heap.size+1,3,none⟩=some rv)∧(wr2.cell? ⟨w.heap.size,0,none⟩=some (.slice none 0 0)∧wr2.cell? ⟨w.heap.size,1,none⟩=some (.slice none 0 0)∧wr2.cell? ⟨w.heap.size,2,none⟩=some (.slice none 0 0)∧wr2.cell? ⟨w.heap.size,3,none⟩=some (.slice none 0 0)∧wr2.frozen? ⟨w.heap.size,0,none⟩=false∧wr2.frozen? ⟨w.heap.size,1,none⟩=false∧wr2.frozen? ⟨w.heap.size,2,none⟩=false∧wr2.frozen? ⟨w.heap.size,3,none⟩=false) ∧
     ∃ Z,Hid (Z=(((wr2.setCell ⟨w.heap.size,0,none⟩ (.slice io (Zk L R L.length).1.1.length ic)).setCell ⟨w.heap.size,1,none⟩ (.slice po (Zk L R L.length).1.2.length pc)).setCell ⟨w.heap.size,2,none⟩ (.slice eo (Zk L R L.length).2.length ec)).setCell ⟨w.heap.size,3,none⟩ rv)∧Hid ((Z.cell? ⟨w.heap.size,0,none⟩=some (.slice io (Zk L R L.length).1.1.length ic)∧Z.cell? ⟨w.heap.size,1,none⟩=some (.slice po (Zk L R L.length).1.2.length pc)∧Z.cell? ⟨w.heap.size,2,none⟩=some (.slice eo (Zk L R L.length).2.length ec)∧Z.cell? ⟨w.heap.size,3,none⟩=some rv)∧J8 L R w (.returned (.tuple #[.agg #[.slice io (Zk L R L.length).1.1.length ic,.slice po (Zk L R L.length).1.2.length pc,.slice eo (Zk L R L.length).2.length ec,rv],.slice none 0 0])) Z)):=by
    intro wr2 rv cs hc;have K2:Zc (λ q=>q=w.heap.size+1) W2 wr2:=Zc.trans K25 hc.kp (λ _ _ e=>e);have br:=HRB.out wr2 K2;obtain ⟨p1,p2⟩:=Zad br (.slice io (Zk L R L.length).1.1.length ic) (.slice po (Zk L R L.length).1.2.length pc) (.slice eo (Zk L R L.length).2.length ec) rv;refine ⟨⟨Zb hc.bx 0,Zb hc.bx 1,Zb hc.bx 2,Zb hc.bx 3⟩,⟨Zb br 0,Zb br 1,Zb br 2,Zb br 3,Zd br 0,Zd br 1,Zd br 2,Zd br 3⟩,_,rfl,⟨Zb p1 0,Zb p1 1,Zb p1 2,Zb p1 3⟩,?_⟩;have r6:=hc.kp.row row5 neE;have l6:=lay5.keptB hc.kp (λ q e=>by have e' : q=w.heap.size+1:=e;exact .inr (.inl e'))
    have tyR:∀ k,(λ q=>q=w.heap.size) k->(∀ cur,wr2.heap[k]? ≠ some (.cells cur 3 (0,0)))∧∀ cur,wr2.heap[k]? ≠ some (.cells cur 77 (0,0)):=λ k e=>by
     have e' : k=w.heap.size:=e;rw [e'];exact ⟨λ cur' h' => (by rw [br] at h'; cases h'),λ cur' h' => (by rw [br] at h'; cases h')⟩
    have pts:=hc.pts;rw [List.take_of_length_le (Nat.le_refl _)] at pts;refine ⟨Zc.trans (HS.out wr2 K2) p2 (λ i hi e=>by have e' : i=w.heap.size:=e;omega),.inl ⟨hT.out,_,_,_,rv,cs,rfl,?_,Yi (p2.row r6 (λ q e e2=>?_)) (by omega),Yi (p2.row hc.row (λ q e e2=>?_)) (by omega),(pts.kept p2 tyR).low (by omega)⟩⟩
    ·exact (l6.keptB p2 (λ q e=>by have e' : q=w.heap.size:=e;exact .inl (by omega))).mono (λ b hb e=>.inl (by have e' : b<w.heap.size:=e;omega))
    ·obtain ⟨cur,hcc⟩:=Zo r6 e
     have e' : q=w.heap.size:=e2;rw [e', br] at hcc;cases hcc
    ·have e' : q=w.heap.size:=e2
     have:=Y0 hc.row e;omega
   have HS5:Hid (∀ X,Zc (λ q=>q=w.heap.size+1) W5 X->Za w X):=λ X hk=>HS.out X (Zc.trans K25 hk (λ _ _ e=>e));have HC5:Hid (w.heap.size+1<W5.heap.size):=by show _<_;omega
   clear hJ hT J BD SM ST GD HRB HS K25 k5 bx5 neE row5 lay5 hz5 hcb hms;generalize (Zk L R L.length).2.length=E0 at *;generalize (Zk L R L.length).1.1.length=I0 at *;generalize (Zk L R L.length).1.2.length=P0 at *
   go_upto_region 16 with fail
   rw [<- hW5];clear hW5
   go_wp2_with fail
   go_loopw [12] (λ nv wr=>∃ (i:Nat) (rv:Value) (cs:List Value),i<=R.length∧nv=.int .i64 (i:Int)∧Hid (CoK W5 (w.heap.size+1) (.slice io I0 ic) (.slice po P0 pc) (.slice eo E0 ec) L R i wr rv cs)) (λ nv _=>R.length-(intOf nv).toNat)
   case atStart=>exact ⟨0,_,[],Nat.zero_le _,rfl,START2.out⟩
   case round=>
    clear START2 c0 c1 f0 f1;obtain ⟨i,rv,cs,hi,rfl,hC⟩:=hrel;obtain ⟨vo,vc,rfl⟩:=Zf hC.out.row;have hs:=HS5.out wr hC.out.kp
    by_cases hlt:i<R.length
    ·obtain ⟨rb,roff,ao,ac,bo,bc,rfl,RY⟩:=RP.out i hlt
     have BY:Hid (∀ ww,Za wr ww->(ww.cell? ⟨rb,roff+i * 2,none⟩=some (.slice ao R[i].1.length ac)∧ww.cell? ⟨rb,roff+i * 2+1,none⟩=some (.slice bo R[i].2.length bc))∧ww.cell? ⟨w.heap.size+1,3,none⟩=some (.slice vo i vc)):=λ ww hk=>⟨(RY.out ww (hs.trans' hk)).1,Zb (hk.at0 hC.out.bx) 3⟩;have HRW:Hid (∀ ww,Za wr ww->ww.ownsRow W5.heap.size 62 1 (.slice vo i vc) i cs∧W5.heap.size<=ww.heap.size):=λ ww hk=>⟨hk.row hC.out.row (λ _ _ f=>f),Nat.le_trans hC.out.kp.size hk.size⟩
     have MORE:Hid (∀ w4 v g cap w11,Za wr w4->PtV W5.heap.size w4 v (Yf L R[i])->w11.ownsRow W5.heap.size 62 1 (.slice (some ⟨g,0,none⟩) (i+1) cap) (i+1) (cs ++ [v])->Zc (λ q=>(Value.slice vo i vc).ownBlock=some q) w4 w11->(w11.cell? ⟨w.heap.size+1,3,none⟩=some (.slice vo i vc)∧w11.frozen? ⟨w.heap.size+1,3,none⟩=false)∧(w11.cell? ⟨rb,roff+i * 2,none⟩=some (.slice ao R[i].1.length ac)∧w11.cell? ⟨rb,roff+i * 2+1,none⟩=some (.slice bo R[i].2.length bc))∧((w11.setCell ⟨w.heap.size+1,3,none⟩ (.slice (some ⟨g,0,none⟩) (i+1) cap)).cell? ⟨rb,roff+i * 2,none⟩=some (.slice ao R[i].1.length ac)∧(w11.setCell ⟨w.heap.size+1,3,none⟩ (.slice (some ⟨g,0,none⟩) (i+1) cap)).cell? ⟨rb,roff+i * 2+1,none⟩=some (.slice bo R[i].2.length bc))∧Hid (CoK W5 (w.heap.size+1) (.slice io I0 ic) (.slice po P0 pc) (.slice eo E0 ec) L R (i+1) (w11.setCell ⟨w.heap.size+1,3,none⟩ (.slice (some ⟨g,0,none⟩) (i+1) cap)) (.slice (some ⟨g,0,none⟩) (i+1) cap) (cs ++ [v]))):=by
      intro w4 v g cap w11 h1 h2 h3 h4;obtain ⟨q1,q2⟩:=CoK.more hC.out HC5.out hlt h1 h2 h3 h4;have hc5:=HC5.out;have k11:Za w w11:=Zc.trans (hs.trans' h1) h4 (λ j hj e=>by have:=Y0 hC.out.row e;omega);exact ⟨⟨Zb q1 3,Zd q1 3⟩,(RY.out w11 k11).1,(RY.out _ (HS5.out _ q2.kp)).1,q2⟩
     have hi1000:i<=1000:=by omega
     have i1:(0:Int)<=(i:Int):=by omega
     have i2:(i:Int)<(R.length:Int):=by omega
     go_upto_region 19 with fail
     have WD:Za wr wr.drew:=(Zc.refl _ _).drew;have y0:wr.drew.cell? ⟨w.heap.size+1,3,none⟩=some (.slice vo i vc):=(BY.out _ WD).2;refine wp_region_held_drew (S:=λ w' => w'.cell? ⟨rb,roff+i * 2,none⟩=some (.slice ao R[i].1.length ac)∧w'.cell? ⟨rb,roff+i * 2+1,none⟩=some (.slice bo R[i].2.length bc)) (by kernel_rfl) (BY.out _ WD).1 (λ hHeld=>?_);refine wpAnyH_take (i:=0) (v:=.pointer (some ⟨w.heap.size+1,3,none⟩)) rfl (by kernel_rfl) (by kernel_rfl) (by kernel_rfl) (λ _ _ _ h=>h) (.inl ⟨rfl,λ w' hS=>by simp [go_sem]⟩) hHeld ?_;refine wpAnyH_take (i:=2) (v:=.slice ro L.length rcap) rfl (by kernel_rfl) (by kernel_rfl) (by kernel_rfl) (λ _ _ _ h=>h) (.inl ⟨rfl,λ w' hS=>by simp [go_sem]⟩) hHeld ?_;refine wpAnyH_take (i:=3) (v:=.slice (some ⟨rb,roff,none⟩) R.length mc) rfl (by kernel_rfl) (by kernel_rfl) (by kernel_rfl) (λ _ _ _ h=>h) (.inl ⟨rfl,λ w' hS=>by simp [go_sem]⟩) hHeld ?_;refine wpAnyH_take (i:=4) (v:=.int .i64 (i:Int)) rfl (by kernel_rfl) (by kernel_rfl) (by kernel_rfl) (λ _ _ _ h=>h) (.inl ⟨rfl,λ w' hS=>by simp [go_sem]⟩) hHeld ?_;refine wpAnyH_take (i:=5) (v:=.pointer (some ⟨rb,roff+i * 2,none⟩)) rfl (by kernel_rfl) (by kernel_rfl) (by kernel_rfl) (λ _ _ _ h=>h) (.inl ⟨rfl,λ w' hS=>by simp [go_sem,i1,i2]⟩) hHeld ?_;refine wpAnyH_take (i:=6) (v:=.agg #[.slice ao R[i].1.length ac,.slice bo R[i].2.length bc]) rfl (by kernel_rfl) (by kernel_rfl) (by kernel_rfl) (λ _ _ _ h=>h) (.inl ⟨rfl,λ w' hS=>by simp [go_sem,hS.1,hS.2]⟩) hHeld ?_;refine wpAnyH_ready (rs:=[1,7]) (by kernel_rfl) (by simp) ?_;refine AllReadyH.cons rfl (λ K hK=>?_) (AllReadyH.cons rfl (λ K hK=>?_) AllReadyH.nil)
     ·go_simp
      refine hK.out _ _ hHeld (λ hHeld=>?_);clear hK K;refine wpAnyH_ready (rs:=[7]) (by kernel_rfl) (by simp) ?_;refine AllReadyH.cons rfl (λ K hK=>?_) AllReadyH.nil;refine Yb rfl (RY.out _ (hs.trans' WD)).2 (by simp [go_sem]) ?_;rintro e w4 ⟨qo,qn,qc,rfl,hpv,kc⟩;refine ⟨_,rfl,?_⟩;have k4:Za wr w4:=WD.trans' kc;have PV:Hid (∀ ww:World,PtV W5.heap.size w4 (.slice qo qn qc) (Yf L R[i])):=λ _=>hpv.out.low (HRW.out _ WD).2;have y4:=(BY.out _ k4).2;have y5:=(BY.out _ (k4.alloc (.cells #[.slice qo qn qc] 62))).2;refine hK.out _ _ (BY.out _ k4).1 (λ hHeld=>?_);clear hK K;refine wpAnyH_ready (rs:=[8]) (by kernel_rfl) (by simp) ?_;refine AllReadyH.cons rfl (λ K hK=>?_) AllReadyH.nil
      go_simp
      refine hK.out _ _ (BY.out _ (Zc.alloc k4 _)).1 (λ hHeld=>?_);clear hK K;refine wpAnyH_ready (rs:=[9]) (by kernel_rfl) (by simp) ?_;refine AllReadyH.cons rfl (λ K hK=>?_) AllReadyH.nil;refine Zdg (w0:=w4) (by rfl) _ _ (by rfl) W5.heap.size i cs (.slice vo i vc) (by rfl) ((Zc.refl _ w4).alloc _) (HRW.out _ k4).1 (.slice qo qn qc) w4.heap.size (by rfl) (heap_alloc_new w4 _) (by rfl) (HRW.out _ k4).2 hi1000 ?_;intro g cap w11 r11 k11;obtain ⟨⟨y1,y2⟩,e11,f11,FF⟩:=MORE.out w4 _ g cap w11 k4 (PV.out w4) r11 k11;refine hK.out _ _ e11 (λ hHeld=>?_);clear hK K;refine wpAnyH_take (i:=10) (v:=.pointer (some ⟨w.heap.size+1,3,none⟩)) rfl (by kernel_rfl) (by kernel_rfl) (by kernel_rfl) (λ _ _ _ h=>h) (.inl ⟨rfl,λ w' hS=>by simp [go_sem]⟩) hHeld ?_;refine wpAnyH_ready (rs:=[11]) (by kernel_rfl) (by simp) ?_;refine AllReadyH.cons rfl (λ K hK=>?_) AllReadyH.nil
      go_simp
      refine hK.out _ _ f11 (λ hHeld=>?_);clear hK K;refine wpAnyH_done (by kernel_rfl) ?_ _
      go_wp2_with fail
      go_roundw
      case rel=>exact ⟨i+1,_,_,by omega,by go_num,FF⟩
      case measure=>simp [intOf];omega
     ·refine Yb rfl (RY.out _ (hs.trans' WD)).2 (by simp [go_sem]) ?_
      rintro e w4 ⟨qo,qn,qc,rfl,hpv,kc⟩;refine ⟨_,rfl,?_⟩;have k4:Za wr w4:=WD.trans' kc;have PV:Hid (∀ ww:World,PtV W5.heap.size w4 (.slice qo qn qc) (Yf L R[i])):=λ _=>hpv.out.low (HRW.out _ WD).2;have y4:=(BY.out _ k4).2;have y5:=(BY.out _ (k4.alloc (.cells #[.slice qo qn qc] 62))).2;refine hK.out _ _ (BY.out _ k4).1 (λ hHeld=>?_);clear hK K;refine wpAnyH_ready (rs:=[1,8]) (by kernel_rfl) (by simp) ?_;refine AllReadyH.cons rfl (λ K hK=>?_) (AllReadyH.cons rfl (λ K hK=>?_) AllReadyH.nil)
      ·go_simp
       refine hK.out _ _ hHeld (λ hHeld=>?_);clear hK K;refine wpAnyH_ready (rs:=[8]) (by kernel_rfl) (by simp) ?_;refine AllReadyH.cons rfl (λ K hK=>?_) AllReadyH.nil
       go_simp
       refine hK.out _ _ (BY.out _ (Zc.alloc k4 _)).1 (λ hHeld=>?_);clear hK K;refine wpAnyH_ready (rs:=[9]) (by kernel_rfl) (by simp) ?_;refine AllReadyH.cons rfl (λ K hK=>?_) AllReadyH.nil;refine Zdg (w0:=w4) (by rfl) _ _ (by rfl) W5.heap.size i cs (.slice vo i vc) (by rfl) ((Zc.refl _ w4).alloc _) (HRW.out _ k4).1 (.slice qo qn qc) w4.heap.size (by rfl) (heap_alloc_new w4 _) (by rfl) (HRW.out _ k4).2 hi1000 ?_;intro g cap w11 r11 k11;obtain ⟨⟨y1,y2⟩,e11,f11,FF⟩:=MORE.out w4 _ g cap w11 k4 (PV.out w4) r11 k11;refine hK.out _ _ e11 (λ hHeld=>?_);clear hK K;refine wpAnyH_take (i:=10) (v:=.pointer (some ⟨w.heap.size+1,3,none⟩)) rfl (by kernel_rfl) (by kernel_rfl) (by kernel_rfl) (λ _ _ _ h=>h) (.inl ⟨rfl,λ w' hS=>by simp [go_sem]⟩) hHeld ?_;refine wpAnyH_ready (rs:=[11]) (by kernel_rfl) (by simp) ?_;refine AllReadyH.cons rfl (λ K hK=>?_) AllReadyH.nil
       go_simp
       refine hK.out _ _ f11 (λ hHeld=>?_);clear hK K;refine wpAnyH_done (by kernel_rfl) ?_ _
       go_wp2_with fail
       go_roundw
       case rel=>exact ⟨i+1,_,_,by omega,by go_num,FF⟩
       case measure=>simp [intOf];omega
      ·go_simp
       refine hK.out _ _ (BY.out _ (Zc.alloc k4 _)).1 (λ hHeld=>?_);clear hK K;refine wpAnyH_ready (rs:=[1]) (by kernel_rfl) (by simp) ?_;refine AllReadyH.cons rfl (λ K hK=>?_) AllReadyH.nil
       go_simp
       refine hK.out _ _ hHeld (λ hHeld=>?_);clear hK K;refine wpAnyH_ready (rs:=[9]) (by kernel_rfl) (by simp) ?_;refine AllReadyH.cons rfl (λ K hK=>?_) AllReadyH.nil;refine Zdg (w0:=w4) (by rfl) _ _ (by rfl) W5.heap.size i cs (.slice vo i vc) (by rfl) ((Zc.refl _ w4).alloc _) (HRW.out _ k4).1 (.slice qo qn qc) w4.heap.size (by rfl) (heap_alloc_new w4 _) (by rfl) (HRW.out _ k4).2 hi1000 ?_;intro g cap w11 r11 k11;obtain ⟨⟨y1,y2⟩,e11,f11,FF⟩:=MORE.out w4 _ g cap w11 k4 (PV.out w4) r11 k11;refine hK.out _ _ e11 (λ hHeld=>?_);clear hK K;refine wpAnyH_take (i:=10) (v:=.pointer (some ⟨w.heap.size+1,3,none⟩)) rfl (by kernel_rfl) (by kernel_rfl) (by kernel_rfl) (λ _ _ _ h=>h) (.inl ⟨rfl,λ w' hS=>by simp [go_sem]⟩) hHeld ?_;refine wpAnyH_ready (rs:=[11]) (by kernel_rfl) (by simp) ?_;refine AllReadyH.cons rfl (λ K hK=>?_) AllReadyH.nil
       go_simp
       refine hK.out _ _ f11 (λ hHeld=>?_);clear hK K;refine wpAnyH_done (by kernel_rfl) ?_ _
       go_wp2_with fail
       go_roundw
       case rel=>exact ⟨i+1,_,_,by omega,by go_num,FF⟩
       case measure=>simp [intOf];omega
    ·obtain rfl:i=R.length:=by omega
     obtain ⟨⟨e0,e1,e2,e3⟩,⟨r0,r1,r2,r3,g0,g1,g2,g3⟩,Z,hZ,GG⟩:=END.out wr _ cs hC.out;clear hC END RP HS5 HC5 hs;go_wp2;obtain ⟨⟨z0,z1,z2,z3⟩,HF⟩:=GG.out;rw [hZ.out] at z0 z1 z2 z3 HF;exact bodyPost_ret (v:=.tuple #[.agg #[.slice io I0 ic,.slice po P0 pc,.slice eo E0 ec,.slice vo R.length vc],.slice none 0 0]) (by simp [results,Tryz.results15,go_sem,z0,z1,z2,z3]) rfl HF
theorem Zik {w:World} {po:Option Addr} {Q:List (Int × List Int)} (hP:PaA w po Q) (hl:Q.length<=140737488355328) (pc:Nat) :
  Calls Tryz.prog 19 #[.slice po Q.length pc] w λ e w' => e=.returned (.int .i64 (wtN Q:Int))∧w' = w:=by
 go_enter Tryz.func19,Tryz.ntmps19
 go_upto_region 3 with fail
 go_loopw [3,4] (λ s3 s4 wr=>∃ k:Nat,k<=Q.length∧s3=.int .i64 (wtN (Q.take k):Int)∧s4=.int .i64 (k:Int)∧wr=w) (λ _ s4 _=>Q.length-(intOf s4).toNat)
 case atStart=>exact ⟨0,Nat.zero_le _,by simp [wtN],rfl,rfl⟩
 case round=>
  obtain ⟨k,hk,rfl,rfl,rfl⟩:=hrel
  by_cases hlt:k<Q.length
  ·obtain ⟨b,off,xo,xc,rfl,c0,_,_⟩:=hP.get hlt
   have i1:(0:Int)<=(k:Int):=by omega
   have i2:(k:Int)<(Q.length:Int):=by omega
   have hst:=Zlt hlt;have hle:=Zut (Q.take k);have hle2:(Q.take k).length<=k:=by rw [List.length_take];omega
   generalize Q[k].1=z at *
   by_cases hz:0<=z
   ·have H:Hid (wtN (Q.take (k+1))=wtN (Q.take k)+1):=by show _=_;rw [hst,if_pos hz]
    clear hst;generalize wtN (Q.take k)=N at *;go_wp2;go_roundw
    case rel=>exact ⟨k+1,by omega,by rw [H.out];go_num,by go_num,by first | rfl | trivial⟩
    case measure=>simp [intOf];omega
   ·have H:Hid (wtN (Q.take (k+1))=wtN (Q.take k)):=by show _=_;rw [hst,if_neg hz];omega
    clear hst;generalize wtN (Q.take k)=N at *;go_wp2;go_roundw
    case rel=>exact ⟨k+1,by omega,by rw [H.out],by go_num,by first | rfl | trivial⟩
    case measure=>simp [intOf];omega
  ·obtain rfl:k=Q.length:=by omega
   rw [List.take_of_length_le (Nat.le_refl _)];go_wp2;go_ret;exact ⟨rfl,rfl⟩
theorem PtC.paA {base:Nat} {W:World} {g:Nat} {Q:List (Int × List Int)} (h:PtC base W g Q.length Q):PaA W (some ⟨g,0,none⟩) Q:=by
 obtain ⟨cur,c1,c2,c3⟩:=h;refine .inr ⟨g,0,rfl,Zi c1,λ i hi=>?_⟩;obtain ⟨ao,ac,d1,d2,d3,_⟩:=c3 i hi hi;rw [Nat.zero_add];exact ⟨ao,ac,(Zb c1 _).trans d1,(Zb c1 _).trans d2,d3.1.at'⟩
theorem PtV.paA {base:Nat} {W:World} {po:Option Addr} {n pc:Nat} {Q:List (Int × List Int)} (h:PtV base W (.slice po n pc) Q):n=Q.length∧PaA W po Q:=by
 obtain ⟨vs,hr,hv,hp⟩:=h;obtain ⟨ao,ac,e0⟩:=Zf hr;simp only [Value.slice.injEq] at e0;obtain ⟨rfl,rfl,rfl⟩:=e0;refine ⟨rfl,?_⟩
 rcases hr.2 with ⟨e,h0⟩ | ⟨g,cap,cur,e,hb,hg,h1,h2,h3,h4⟩
 ·exact .inl (List.eq_nil_of_length_eq_zero h0)
 ·cases e
  refine .inr ⟨g,0,rfl,Zi hg,λ i hi=>?_⟩;obtain ⟨ao,ac,d1,d2,d3,_⟩:=hp i hi;refine ⟨ao,ac,?_,?_,d3.1.at'⟩
  ·rw [Nat.zero_add,hr.cellAt _ (by omega)];exact d1
  ·rw [Nat.zero_add,hr.cellAt _ (by omega)];exact d2
theorem RtC.rgP {base:Nat} {w:World} {ro:Option Addr} {n rc:Nat} {cs:List Value} {Q:List (List (Int × List Int))} (hr:w.ownsRow base 62 1 (.slice ro n rc) n cs) (h:RtC base w cs Q):RgP w ro Q:=by
 have hn:Q.length=n:=by have:=hr.1;have:=h.1;omega
 rcases hr.2 with ⟨e,h0⟩ | ⟨g,cap,cur,e,hb,hg,h1,h2,h3,h4⟩
 ·exact .inl (List.eq_nil_of_length_eq_zero (by omega))
 ·cases e
  refine .inr ⟨g,0,rfl,Zi hg,λ i hi=>?_⟩;obtain ⟨g', gc,a,b,c⟩:=h.2 i hi;refine ⟨_,gc,?_,c.paA⟩;rw [Nat.zero_add,hr.cellAt _ (by omega)];exact a
theorem RvC.rgP {base:Nat} {w:World} {ro:Option Addr} {n rc:Nat} {cs:List Value} {Q:List (List (Int × List Int))} (hr:w.ownsRow base 62 1 (.slice ro n rc) n cs) (h:RvC base w cs Q):RgP w ro Q:=by
 have hn:Q.length=n:=by have:=hr.1;have:=h.1;omega
 rcases hr.2 with ⟨e,h0⟩ | ⟨g,cap,cur,e,hb,hg,h1,h2,h3,h4⟩
 ·exact .inl (List.eq_nil_of_length_eq_zero (by omega))
 ·cases e
  refine .inr ⟨g,0,rfl,Zi hg,λ i hi=>?_⟩;obtain ⟨v,a,b⟩:=h.2 i hi;obtain ⟨po,pc,rfl⟩:=b.shape;refine ⟨po,pc,?_,b.paA.2⟩;rw [Nat.zero_add,hr.cellAt _ (by omega)];exact a
end
section
open Go.RowKit
def Wt (W W' : World):Prop:=∀ (q:Nat) (cur:Array Value) (T:TypeId),W.heap[q]? = some (Obj.cells cur T (0,0))->∃ cur', W'.heap[q]? = some (Obj.cells cur' T (0,0))∧cur'.size=cur.size∧((T=32∨T=62∨T=51)->cur' = cur)∧(T=77->∀ k:Nat,cur'[k * 2+1]? = cur[k * 2+1]? ∨ cur'[k * 2+1]? = some (.slice none 0 0))
theorem Wt.refl (W:World):Wt W W:=λ q cur T h=>⟨cur,h,rfl,λ _=>rfl,λ _ k=>.inl rfl⟩
theorem Wt.trans {W W' W'' : World} (h:Wt W W') (h' : Wt W' W''):Wt W W'' := λ q cur T hq=>by
 obtain ⟨c1,a1,a2,a3,a4⟩:=h q cur T hq;obtain ⟨c2,b1,b2,b3,b4⟩:=h' q c1 T a1;refine ⟨c2,b1,b2.trans a2,λ e=>(b3 e).trans (a3 e),λ e k=>?_⟩
 rcases b4 e k with x | x
 ·rcases a4 e k with y | y
  ·exact .inl (x.trans y)
  ·exact .inr (x.trans y)
 ·exact .inr x
theorem Wt.set {W:World} {g:Nat} {cur:Array Value} {T:TypeId} (hb:W.heap[g]? = some (.cells cur T (0,0))) (hT:T=3∨T=117) (j:Nat) (v:Value):Wt W (W.setCell ⟨g,j,none⟩ v):=λ q c T' hq=>by
 by_cases e:q=g
 ·subst e
  rw [hb] at hq;cases hq;refine ⟨_,Zs hb j v,by simp,λ e=>?_,λ e=>?_⟩
  ·rcases hT with rfl | rfl <;> exact absurd e (by decide)
  ·rcases hT with rfl | rfl <;> exact absurd e (by decide)
 ·exact ⟨c,(Zt W g j v).at hq (λ e2=>e e2),rfl,λ _=>rfl,λ _ k=>.inl rfl⟩
theorem Wt.part {W:World} {g:Nat} {cur:Array Value} (hb:W.heap[g]? = some (.cells cur 77 (0,0))) (k:Nat) (x:Value):Wt W ((W.setCell ⟨g,k * 2,none⟩ x).setCell ⟨g,k * 2+1,none⟩ (.slice none 0 0)):=λ q c T' hq=>by
 by_cases e:q=g
 ·subst e
  rw [hb] at hq;cases hq;refine ⟨_,Zs (Zs hb (k * 2) x) (k * 2+1) (.slice none 0 0),by simp,λ e=>?_,λ _ k' => ?_⟩
  ·exact absurd e (by decide)
  ·by_cases e:k' = k
   ·subst e
    by_cases hl:k' * 2+1<cur.size
    ·right;simp [hl]
    ·left;rw [Array.getElem?_eq_none (by simp;omega),Array.getElem?_eq_none (by omega)]
   ·left
    rw [Array.getElem?_setIfInBounds_ne (by omega),Array.getElem?_setIfInBounds_ne (by omega)]
 ·exact ⟨c,(Zc.trans (Zt W g (k * 2) x) (Zt _ g (k * 2+1) (.slice none 0 0)) (λ _ _ e=>e)).at hq (λ e2=>e e2),rfl,λ _=>rfl,λ _ k=>.inl rfl⟩
structure SpK (lo hi:Nat) (W1 W:World):Prop where
 wt:Wt W1 W
 kp:Zc (λ q=>lo<=q∧q<hi) W1 W
theorem SpK.set {lo hi:Nat} {W1 W:World} (h:SpK lo hi W1 W) {g:Nat} {cur:Array Value} {T:TypeId} (hb:W1.heap[g]? = some (.cells cur T (0,0))) (hT:T=3∨T=117) (h1:lo<=g) (h2:g<hi) (j:Nat) (v:Value):SpK lo hi W1 (W.setCell ⟨g,j,none⟩ v):=by
 obtain ⟨c,a,_⟩:=h.wt g cur T hb;exact ⟨h.wt.trans (Wt.set a hT j v),Zc.trans h.kp (Zt W g j v) (λ i _ e=>by have e' : i=g:=e;omega)⟩
theorem SpK.part {lo hi:Nat} {W1 W:World} (h:SpK lo hi W1 W) {g:Nat} {cur:Array Value} (hb:W1.heap[g]? = some (.cells cur 77 (0,0))) (h1:lo<=g) (h2:g<hi) (k:Nat) (x:Value):SpK lo hi W1 ((W.setCell ⟨g,k * 2,none⟩ x).setCell ⟨g,k * 2+1,none⟩ (.slice none 0 0)):=by
 obtain ⟨c,a,_⟩:=h.wt g cur _ hb;exact ⟨h.wt.trans (Wt.part a k x),Zc.trans h.kp (Zc.trans (Zt W g (k * 2) x) (Zt _ g (k * 2+1) (.slice none 0 0)) (λ _ _ e=>e)) (λ i _ e=>by have e' : i=g:=e;omega)⟩
def WrI (W:World) (lo hi:Nat) (ao:Option Addr) (n:Nat):Prop:=n=0∨∃ g cur,ao=some ⟨g,0,none⟩∧lo<=g∧g<hi∧W.heap[g]? = some (.cells cur 3 (0,0))∧n<=cur.size
theorem WrI.put {W1:World} {lo hi:Nat} {ao:Option Addr} {n k:Nat} (h:WrI W1 lo hi ao n) (hk:k<n):∃ p,ao=some ⟨p,0,none⟩∧(∀ h' cu,W1.heap[h']? = some (.cells cu 77 (0,0))->h' ≠ p)∧∀ X v,SpK lo hi W1 X->(∃ o,X.cell? ⟨p,k,none⟩=some o)∧X.frozen? ⟨p,k,none⟩=false∧SpK lo hi W1 (X.setCell ⟨p,k,none⟩ v):=by
 rcases h with h | ⟨g,cur,e,h1,h2,h3,h4⟩
 ·omega
 ·refine ⟨g,e,(λ h' cu hc e2=>by rw [e2,h3] at hc;cases hc),λ X v hX=>?_⟩
  obtain ⟨c,a,b,_⟩:=hX.wt g cur _ h3;have hl:k<c.size:=by omega
  exact ⟨⟨c[k],by rw [Zb a];simp [hl]⟩,Zd a k,hX.set h3 (.inl rfl) h1 h2 k v⟩
structure CdW (W:World) (lo hi:Nat) (io po eo ro:Option Addr) (I P E R:Nat):Prop where
 ins:I=0∨∃ g cur,io=some ⟨g,0,none⟩∧lo<=g∧g<hi∧W.heap[g]? = some (.cells cur 117 (0,0))∧I * 3<=cur.size
 pth:P=0∨∃ g cur,po=some ⟨g,0,none⟩∧W.heap[g]? = some (.cells cur 32 (0,0))∧∀ i,i<P->∃ qo ql qc,cur[i]? = some (.slice qo ql qc)∧WrI W lo hi qo ql∧ql<=20000000000000
 ent:WrI W lo hi eo E
 rgt:R=0∨∃ g cur,ro=some ⟨g,0,none⟩∧W.heap[g]? = some (.cells cur 62 (0,0))∧∀ i,i<R->∃ h hl hc cu,cur[i]? = some (.slice (some ⟨h,0,none⟩) hl hc)∧lo<=h∧h<hi∧W.heap[h]? = some (.cells cu 77 (0,0))∧hl * 2<=cu.size∧hl<=20000000000000∧∀ k,k<hl->∃ qo ql qc,cu[k * 2+1]? = some (.slice qo ql qc)∧WrI W lo hi qo ql∧ql<=20000000000000
theorem CdW.insPut {W1:World} {lo hi I P E R i:Nat} {io po eo ro:Option Addr} (h:CdW W1 lo hi io po eo ro I P E R) (hi' : i<I):∃ g,io=some ⟨g,0,none⟩∧∀ X x y z,SpK lo hi W1 X->((∃ o0 o1 o2,X.cell? ⟨g,i * 3,none⟩=some o0∧X.cell? ⟨g,i * 3+1,none⟩=some o1∧X.cell? ⟨g,i * 3+2,none⟩=some o2)∧X.frozen? ⟨g,i * 3,none⟩=false∧X.frozen? ⟨g,i * 3+1,none⟩=false∧X.frozen? ⟨g,i * 3+2,none⟩=false)∧SpK lo hi W1 (((X.setCell ⟨g,i * 3,none⟩ x).setCell ⟨g,i * 3+1,none⟩ y).setCell ⟨g,i * 3+2,none⟩ z):=by
 rcases h.ins with h | ⟨g,cur,e,h1,h2,h3,h4⟩
 ·omega
 ·refine ⟨g,e,λ X x y z hX=>?_⟩
  obtain ⟨c,a,b,_⟩:=hX.wt g cur _ h3;have l0:i * 3<c.size:=by omega
  have l1:i * 3+1<c.size:=by omega
  have l2:i * 3+2<c.size:=by omega
  exact ⟨⟨⟨c[i * 3],c[i * 3+1],c[i * 3+2],by rw [Zb a];simp [l0],by rw [Zb a];simp [l1],by rw [Zb a];simp [l2]⟩,Zd a _,Zd a _,Zd a _⟩,((hX.set h3 (.inr rfl) h1 h2 _ x).set h3 (.inr rfl) h1 h2 _ y).set h3 (.inr rfl) h1 h2 _ z⟩
theorem CdW.pthGet {W1:World} {lo hi I P E R i:Nat} {io po eo ro:Option Addr} (h:CdW W1 lo hi io po eo ro I P E R) (hi' : i<P):∃ g qo ql qc,po=some ⟨g,0,none⟩∧ql<=20000000000000∧WrI W1 lo hi qo ql∧∀ X,SpK lo hi W1 X->X.cell? ⟨g,i,none⟩=some (.slice qo ql qc):=by
 rcases h.pth with h | ⟨g,cur,e,h1,h2⟩
 ·omega
 ·obtain ⟨qo,ql,qc,a,b,c⟩:=h2 i hi'
  refine ⟨g,qo,ql,qc,e,c,b,λ X hX=>?_⟩;obtain ⟨cu,a1,_,a3,_⟩:=hX.wt g cur _ h1;rw [Zb a1,a3 (.inl rfl)];exact a
theorem CdW.rgtGet {W1:World} {lo hi I P E R i:Nat} {io po eo ro:Option Addr} (h:CdW W1 lo hi io po eo ro I P E R) (hi' : i<R):∃ g b hl hc,ro=some ⟨g,0,none⟩∧hl<=20000000000000∧(∀ X,SpK lo hi W1 X->X.cell? ⟨g,i,none⟩=some (.slice (some ⟨b,0,none⟩) hl hc))∧∀ k,k<hl->∀ X,SpK lo hi W1 X ->
  (∃ qo ql qc,X.cell? ⟨b,k * 2+1,none⟩=some (.slice qo ql qc)∧ql<=20000000000000∧∀ j,j<ql->∃ p,qo=some ⟨p,0,none⟩∧∀ Y v,SpK lo hi W1 Y->(∃ o,Y.cell? ⟨p,j,none⟩=some o)∧Y.frozen? ⟨p,j,none⟩=false∧SpK lo hi W1 (Y.setCell ⟨p,j,none⟩ v)∧(Y.setCell ⟨p,j,none⟩ v).cell? ⟨b,k * 2+1,none⟩=Y.cell? ⟨b,k * 2+1,none⟩) ∧
  ((∃ o0 o1,X.cell? ⟨b,k * 2,none⟩=some o0∧X.cell? ⟨b,k * 2+1,none⟩=some o1)∧X.frozen? ⟨b,k * 2,none⟩=false∧X.frozen? ⟨b,k * 2+1,none⟩=false)∧∀ x,SpK lo hi W1 ((X.setCell ⟨b,k * 2,none⟩ x).setCell ⟨b,k * 2+1,none⟩ (.slice none 0 0)):=by
 rcases h.rgt with h | ⟨g,cur,e,h1,h2⟩
 ·omega
 ·obtain ⟨b,hl,hc,cu,a,b1,b2,b3,b4,b5,b6⟩:=h2 i hi'
  refine ⟨g,b,hl,hc,e,b5,λ X hX=>?_,λ k hk X hX=>?_⟩
  ·obtain ⟨cc,a1,_,a3,_⟩:=hX.wt g cur _ h1
   rw [Zb a1,a3 (.inr (.inl rfl))];exact a
  ·obtain ⟨cc,a1,a2,_,a4⟩:=hX.wt b cu _ b3
   obtain ⟨qo,ql,qc,d1,d2,d3⟩:=b6 k hk;have l0:k * 2<cc.size:=by omega
   have l1:k * 2+1<cc.size:=by omega
   refine ⟨?_,⟨⟨cc[k * 2],cc[k * 2+1],by rw [Zb a1];simp [l0],by rw [Zb a1];simp [l1]⟩,Zd a1 _,Zd a1 _⟩,λ x=>hX.part b3 b1 b2 k x⟩
   rcases a4 rfl k with q | q
   ·refine ⟨qo,ql,qc,by rw [Zb a1,q];exact d1,d3,λ j hj=>?_⟩
    obtain ⟨p,p1,p2,p3⟩:=d2.put hj;have ne:=p2 b cu b3;refine ⟨p,p1,λ Y v hY=>?_⟩;obtain ⟨r1,r2,r3⟩:=p3 Y v hY;obtain ⟨c9,a9,_⟩:=hY.wt b cu _ b3;exact ⟨r1,r2,r3,(Zt Y p j v).cell (p:=⟨b,k * 2+1,none⟩) (Zi a9) (λ e=>ne e)⟩
   ·exact ⟨none,0,0,by rw [Zb a1,q],by omega,λ j hj=>by omega⟩
end
section
open Go.RowKit
attribute [local go_sem ↓] Go.wp_at_zero Go.wp_at_succ
theorem Zdv {w:World} {lo hi:Nat} (hhi:hi<=w.heap.size) {io po eo ro:Option Addr} {I P E R:Nat} (h:CdW w lo hi io po eo ro I P E R) (b1:I<=20000000000000) (b2:P<=20000000000000) (b3:E<=20000000000000) (b4:R<=20000000000000) (ic pc ec rc:Nat) :
  Calls Tryz.prog 17 #[.agg #[.slice io I ic,.slice po P pc,.slice eo E ec,.slice ro R rc]] w λ e w' => (∃ u,e=.returned u)∧Zc (λ q=>lo<=q∧q<hi) w w' := by
 obtain ⟨W1,hW1⟩:∃ W1,W1=w.alloc (.cells #[.slice io I ic,.slice po P pc,.slice eo E ec,.slice ro R rc] 51):=⟨_,rfl⟩;have KW:Za w W1:=by rw [hW1];exact (Zc.refl _ w).alloc _
 have hbx:W1.heap[w.heap.size]? = some (.cells #[.slice io I ic,.slice po P pc,.slice eo E ec,.slice ro R rc] 51 (0,0)):=by rw [hW1];exact heap_alloc_new w _
 have WI:∀ ao n,WrI w lo hi ao n->WrI W1 lo hi ao n:=λ ao n q=>by
  refine q.imp id ?_;rintro ⟨g,cur,e,q1,q2,q3,q4⟩;exact ⟨g,cur,e,q1,q2,KW.at0 q3,q4⟩
 have h1:CdW W1 lo hi io po eo ro I P E R:=by
  refine ⟨h.ins.imp id ?_,h.pth.imp id ?_,WI _ _ h.ent,h.rgt.imp id ?_⟩
  ·rintro ⟨g,cur,e,q1,q2,q3,q4⟩
   exact ⟨g,cur,e,q1,q2,KW.at0 q3,q4⟩
  ·rintro ⟨g,cur,e,q1,q2⟩
   refine ⟨g,cur,e,KW.at0 q1,λ i hi=>?_⟩;obtain ⟨qo,ql,qc,a,b,c⟩:=q2 i hi;exact ⟨qo,ql,qc,a,WI _ _ b,c⟩
  ·rintro ⟨g,cur,e,q1,q2⟩
   refine ⟨g,cur,e,KW.at0 q1,λ i hi=>?_⟩;obtain ⟨b,hl,hc,cu,a,a1,a2,a3,a4,a5,a6⟩:=q2 i hi;refine ⟨b,hl,hc,cu,a,a1,a2,KW.at0 a3,a4,a5,λ k hk=>?_⟩;obtain ⟨qo,ql,qc,d1,d2,d3⟩:=a6 k hk;exact ⟨qo,ql,qc,d1,WI _ _ d2,d3⟩
 have HB:Hid (∀ X,SpK lo hi W1 X->X.cell? ⟨w.heap.size,0,none⟩=some (.slice io I ic)∧X.cell? ⟨w.heap.size,1,none⟩=some (.slice po P pc)∧X.cell? ⟨w.heap.size,2,none⟩=some (.slice eo E ec)∧X.cell? ⟨w.heap.size,3,none⟩=some (.slice ro R rc)):=λ X hX=>by
  have:=hX.kp.at hbx (λ e=>by omega);exact ⟨Zb this 0,Zb this 1,Zb this 2,Zb this 3⟩
 have HF:Hid (∀ X,SpK lo hi W1 X->Zc (λ q=>lo<=q∧q<hi) w X):=λ X hX=>Zc.trans (KW.mono (λ _ _ f=>f.elim)) hX.kp (λ _ _ e=>e);have HC:Hid (CdW W1 lo hi io po eo ro I P E R):=h1;have J0:Hid (SpK lo hi W1 W1):=⟨Wt.refl _,Zc.refl _ _⟩;clear hbx KW h h1 WI
 go_enter Tryz.func17,Tryz.ntmps17
 go_upto_region 1 with fail
 rw [<- hW1];clear hW1
 go_wp2_with fail
 go_loopw [2] (λ s wr=>∃ i:Nat,i<=I∧s=.int .i64 (i:Int)∧Hid (SpK lo hi W1 wr)) (λ s _=>I-(intOf s).toNat)
 case atStart=>exact ⟨0,Nat.zero_le _,rfl,J0.out⟩
 case round=>
  clear J0;obtain ⟨i,hi', rfl,HJ⟩:=hrel;obtain ⟨x0,x1,x2,x3⟩:=HB.out wr HJ.out
  by_cases hlt:i<I
  ·obtain ⟨g,rfl,GP⟩:=HC.out.insPut hlt
   obtain ⟨⟨⟨o0,o1,o2,c0,c1,c2⟩,f0,f1,f2⟩,J2⟩:=GP wr (.int .i64 (-1)) (.int .i64 0) (.int .i64 0) HJ.out;have HJ2:Hid (SpK _ _ _ _):=J2;have i1:(0:Int)<=(i:Int):=by omega
   have i2:(i:Int)<(I:Int):=by omega
   clear GP J2 HJ x1 x2 x3;go_wp2;go_roundw
   case rel=>exact ⟨i+1,by omega,by go_num,HJ2⟩
   case measure=>simp [intOf];omega
  ·obtain rfl:i=I:=by omega
   have J0:Hid (SpK lo hi W1 wr):=HJ;clear HJ;obtain ⟨wo,rfl⟩:∃ wo:World,wo=wr:=⟨_,rfl⟩
   go_upto_region 6 with fail
   go_loopw [3,4] (λ s s4 wr=>∃ i:Nat,i<=P∧s=.int .i64 (i:Int)∧Hid (SpK lo hi W1 wr)) (λ s _ _=>P-(intOf s).toNat)
   case atStart=>exact ⟨0,Nat.zero_le _,rfl,J0.out⟩
   case round=>
    clear J0 x0 x1 x2 x3;obtain ⟨i,hi', rfl,HJ⟩:=hrel;obtain ⟨x0,x1,x2,x3⟩:=HB.out wr HJ.out
    by_cases hlt:i<P
    ·obtain ⟨g,qo,ql,qc,rfl,hql,hqw,GP⟩:=HC.out.pthGet hlt
     have HG:Hid (∀ X,SpK lo hi W1 X->X.cell? ⟨g,i,none⟩=some (.slice qo ql qc)):=GP;have HW:Hid (WrI W1 lo hi qo ql):=hqw;have i1:(0:Int)<=(i:Int):=by omega
     have i2:(i:Int)<(P:Int):=by omega
     have J0:Hid (SpK lo hi W1 wr):=HJ;clear GP hqw HJ x0 x2 x3;obtain ⟨wo2,rfl⟩:∃ wo2:World,wo2=wr:=⟨_,rfl⟩
     go_upto_region 9 with fail
     go_loopw [4] (λ s wr=>∃ k:Nat,k<=ql∧s=.int .i64 (k:Int)∧Hid (SpK lo hi W1 wr)) (λ s _=>ql-(intOf s).toNat)
     case atStart=>exact ⟨0,Nat.zero_le _,rfl,J0.out⟩
     case round=>
      clear J0 x1;obtain ⟨k,hk', rfl,HJ⟩:=hrel;obtain ⟨x0,x1,x2,x3⟩:=HB.out wr HJ.out;have cg:=HG.out wr HJ.out;clear x0 x2 x3
      by_cases hkl:k<ql
      ·obtain ⟨p,rfl,_,PP⟩:=HW.out.put hkl
       obtain ⟨⟨o,d0⟩,d1,d2⟩:=PP wr (.int .i64 (1000+(i:Int))) HJ.out;have HJ2:Hid (SpK _ _ _ _):=d2;have k1:(0:Int)<=(k:Int):=by omega
       have k2:(k:Int)<(ql:Int):=by omega
       clear PP d2 HJ;go_wp2;go_roundw
       case rel=>exact ⟨k+1,by omega,by go_num,HJ2⟩
       case measure=>simp [intOf];omega
      ·obtain rfl:k=ql:=by omega
       go_wp2_with fail
       go_roundw
       case rel=>exact ⟨i+1,by omega,by go_num,HJ⟩
       case measure=>simp [intOf];omega
    ·obtain rfl:i=P:=by omega
     have J0:Hid (SpK lo hi W1 wr):=HJ;clear HJ;obtain ⟨wo3,rfl⟩:∃ wo3:World,wo3=wr:=⟨_,rfl⟩
     go_upto_region 13 with fail
     go_loopw [5] (λ s wr=>∃ i:Nat,i<=E∧s=.int .i64 (i:Int)∧Hid (SpK lo hi W1 wr)) (λ s _=>E-(intOf s).toNat)
     case atStart=>exact ⟨0,Nat.zero_le _,rfl,J0.out⟩
     case round=>
      clear J0 x0 x1 x2 x3;obtain ⟨i,hi', rfl,HJ⟩:=hrel;obtain ⟨x0,x1,x2,x3⟩:=HB.out wr HJ.out
      by_cases hlt:i<E
      ·obtain ⟨p,rfl,_,PP⟩:=HC.out.ent.put hlt
       obtain ⟨⟨o,d0⟩,d1,d2⟩:=PP wr (.int .i64 77) HJ.out;have HJ2:Hid (SpK _ _ _ _):=d2;have i1:(0:Int)<=(i:Int):=by omega
       have i2:(i:Int)<(E:Int):=by omega
       clear PP d2 HJ x0 x1 x3;go_wp2;go_roundw
       case rel=>exact ⟨i+1,by omega,by go_num,HJ2⟩
       case measure=>simp [intOf];omega
      ·obtain rfl:i=E:=by omega
       have J0:Hid (SpK lo hi W1 wr):=HJ;clear HJ;obtain ⟨wo4,rfl⟩:∃ wo4:World,wo4=wr:=⟨_,rfl⟩
       go_upto_region 17 with fail
       go_loopw [6,7,8] (λ s s7 s8 wr=>∃ i:Nat,i<=R∧s=.int .i64 (i:Int)∧Hid (SpK lo hi W1 wr)) (λ s _ _ _=>R-(intOf s).toNat)
       case atStart=>exact ⟨0,Nat.zero_le _,rfl,J0.out⟩
       case round=>
        clear J0 x0 x1 x2 x3;obtain ⟨i,hi', rfl,HJ⟩:=hrel;obtain ⟨x0,x1,x2,x3⟩:=HB.out wr HJ.out
        by_cases hlt:i<R
        ·obtain ⟨g,b,hl,hc,rfl,hhl,GP,KP⟩:=HC.out.rgtGet hlt
         have HG:Hid (∀ X,SpK lo hi W1 X->X.cell? ⟨g,i,none⟩=some (.slice (some ⟨b,0,none⟩) hl hc)):=GP;have HKP:Hid (∀ k,k<hl->∀ X,SpK lo hi W1 X->_):=KP;have i1:(0:Int)<=(i:Int):=by omega
         have i2:(i:Int)<(R:Int):=by omega
         have J0:Hid (SpK lo hi W1 wr):=HJ;clear GP KP HJ x0 x1 x2;obtain ⟨wo5,rfl⟩:∃ wo5:World,wo5=wr:=⟨_,rfl⟩
         go_upto_region 20 with fail
         go_loopw [7,8] (λ s s8 wr=>∃ k:Nat,k<=hl∧s=.int .i64 (k:Int)∧Hid (SpK lo hi W1 wr)) (λ s _ _=>hl-(intOf s).toNat)
         case atStart=>exact ⟨0,Nat.zero_le _,rfl,J0.out⟩
         case round=>
          clear J0 x3;obtain ⟨k,hk', rfl,HJ⟩:=hrel;obtain ⟨x0,x1,x2,x3⟩:=HB.out wr HJ.out;have cg:=HG.out wr HJ.out;clear x0 x1 x2
          by_cases hkl:k<hl
          ·obtain ⟨⟨qo,ql,qc,hq0,hql,QP⟩,_,_⟩:=HKP.out k hkl wr HJ.out
           have HQP:Hid (∀ j,j<ql->_):=QP;have k1:(0:Int)<=(k:Int):=by omega
           have k2:(k:Int)<(hl:Int):=by omega
           have J0:Hid (SpK lo hi W1 wr):=HJ;have HQ0:Hid (wr.cell? ⟨b,k * 2+1,none⟩=some (.slice qo ql qc)):=hq0;clear QP HJ;obtain ⟨wo6,rfl⟩:∃ wo6:World,wo6=wr:=⟨_,rfl⟩
           go_upto_region 23 with fail
           go_loopw [8] (λ s wr=>∃ j:Nat,j<=ql∧s=.int .i64 (j:Int)∧Hid (SpK lo hi W1 wr)∧Hid (wr.cell? ⟨b,k * 2+1,none⟩=some (.slice qo ql qc))) (λ s _=>ql-(intOf s).toNat)
           case atStart=>exact ⟨0,Nat.zero_le _,rfl,J0.out,HQ0.out⟩
           case round=>
            clear J0 HQ0 hq0 x3 cg;obtain ⟨j,hj', rfl,HJ,HQ1⟩:=hrel;obtain ⟨x0,x1,x2,x3⟩:=HB.out wr HJ.out;have cg:=HG.out wr HJ.out;have cq:=HQ1.out;clear x0 x1 x2
            by_cases hjl:j<ql
            ·obtain ⟨p,rfl,PP⟩:=HQP.out j hjl
             obtain ⟨⟨o,d0⟩,d1,d2,d3⟩:=PP wr (.int .i64 50) HJ.out;have HJ2:Hid (SpK _ _ _ _):=d2;have HQ2:Hid _:=d3.trans cq;have j1:(0:Int)<=(j:Int):=by omega
             have j2:(j:Int)<(ql:Int):=by omega
             clear PP d2 d3 HJ;go_wp2;go_roundw
             case rel=>exact ⟨j+1,by omega,by go_num,HJ2,HQ2⟩
             case measure=>simp [intOf];omega
            ·obtain rfl:j=ql:=by omega
             obtain ⟨_,⟨⟨o0,o1,d0,d1⟩,d2,d3⟩,d4⟩:=HKP.out k hkl wr HJ.out;have HJ2:Hid (SpK _ _ _ _):=d4 (.int .i64 (-9));clear d4 HJ d1;go_wp2;go_roundw
             case rel=>exact ⟨k+1,by omega,by go_num,HJ2⟩
             case measure=>simp [intOf];omega
          ·obtain rfl:k=hl:=by omega
           go_wp2_with fail
           go_roundw
           case rel=>exact ⟨i+1,by omega,by go_num,HJ⟩
           case measure=>simp [intOf];omega
        ·obtain rfl:i=R:=by omega
         go_wp2_with fail
         go_end0
         exact ⟨⟨_,rfl⟩,HF.out _ HJ.out⟩
end
end Go.Proofs.YtjahpnbijefncaaGreat
