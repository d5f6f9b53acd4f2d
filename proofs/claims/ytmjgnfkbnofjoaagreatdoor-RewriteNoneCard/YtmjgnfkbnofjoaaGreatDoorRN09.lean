import Derived.WalkKit
import Derived.Test.YtmjgnfkbnofjoaaGreatDoorRN08
namespace Go.Proofs.YtmjgnfkbnofjoaaGreatDoor
open Go.Proofs.Tryz
set_option maxRecDepth 100000
set_option linter.unusedVariables false
set_option maxHeartbeats 16000000
variable {a:Act} {K:Act->World->Prop} {ops:Array Oper} {ws:List (Int × Int)} {P Q:List (List Int)} {xs:List Int} {H R:List Rw} {L:List Sym} {us:List Value} {A ac b base bs c d g k m n off p pc s vc:Nat} {B B' S:Nat->Prop} {o:Obj} {ao bo ho po ro vo:Option Addr} {E:Prop} {lv:Value} {W1 w w' w0 w8 wr:World}
section
open Go.RowKit
attribute [local go_sem ↓] Go.wp_at_zero Go.wp_at_succ
theorem Src.cutl (h:Src w (some ⟨b,off,none⟩) m c us) (k:Nat) (hk:k<=m):Src w (some ⟨b,off,none⟩) k c (us.take k):=by
 refine ⟨by have:=h.len;simp;omega,λ u hu=>h.one u (List.mem_of_mem_take hu),λ ad e j u hj=>?_,λ e=>by cases e⟩;refine h.at' ad e j u ?_;rw [List.getElem?_take] at hj;split at hj
 ·exact hj
 ·cases hj
theorem Src.cutr (h:Src w (some ⟨b,off,none⟩) m c us) (k:Nat) (hk:k<=m):Src w (some ⟨b,off+k,none⟩) (m-k) d (us.drop k):=by
 refine ⟨by have:=h.len;simp;omega,λ u hu=>h.one u (List.mem_of_mem_drop hu),λ ad e j u hj=>?_,λ e=>by cases e⟩;cases e;rw [List.getElem?_drop] at hj;have:=h.at' _ rfl _ u hj;rw [Xb] at this ⊢;rw [<- this];congr 2;omega
theorem Src.void (h0:m=0) (hn:ao≠none) (hu:us=[]):Src w ao m c us:=by
 subst h0 hu;exact Src.nil w ao c (λ e=>absurd e hn)
theorem Zhd {vs:List Value} (h:Src w (some ⟨b,off,none⟩) m c us) (hb:b<w.heap.size) (hmc:m<=c) (h2:Src w bo k d vs) (hp:p<m) (hl:m+k<=10000) :
  Calls prog 183 #[.slice (some ⟨b,off,none⟩) m c,.int .i64 (p:Int),.slice bo k d] w λ e w' => ∃ v,e=.returned v∧w'.ownsRow w.heap.size 3 1 v (m-1+k) (us.take p++vs++us.drop (p+1))∧Za w w' := by
 have ew:IntKind.i64.wrap ((p:Int)+1)=(p:Int)+1:=Zcv (by omega) (by omega);have i1:(0:Int)<=(p:Int):=by omega
 have i2:(p:Int)<=(c:Int):=by omega
 have i3:(p:Int)+1<=(m:Int):=by omega
 have i4:(0:Int)<=(p:Int)+1:=by omega
 have hlen:∀ n,p+k+n=p+k+n:=λ _=>rfl
 have CAT:Hid (∀ (ww:World) (a2:Option Addr) (m2 c2:Nat),Za w ww->Src w a2 m2 c2 (us.drop (p+1))->m2=m-(p+1)->Calls prog 180 #[.slice (some ⟨ww.heap.size,0,none⟩) 3 3] (ww.alloc (.cells #[.slice (some ⟨b,off,none⟩) p c,.slice bo k d,.slice a2 m2 c2] 51)) λ e w' => ∃ v,e=.returned v∧Hid (w'.ownsRow w.heap.size 3 1 v (m-1+k) (us.take p++vs++us.drop (p+1)))∧Za w w'):=by
  intro ww a2 m2 c2 hk hs hm2;have ka:Za ww (ww.alloc (.cells #[.slice (some ⟨b,off,none⟩) p c,.slice bo k d,.slice a2 m2 c2] 51)):=Zal9;have kk:=hk.trans' ka;refine (Zkb (heap_alloc_new ww _) ((h.cutl p (by omega)).same kk) (h2.same kk) (hs.same kk) (by omega)).mono ?_;rintro e w' ⟨v,rfl,hr,h3⟩;refine ⟨v,rfl,?_,kk.trans' h3⟩;have e1:p+k+m2=m-1+k:=by omega
  rw [e1] at hr;exact Yy hr (by rw [World.size_alloc];have:=hk.size;omega)
 by_cases hc1:c=p+1
 ·have hm1:m=p+1:=by omega
  have S2:Src w (some ⟨b,off,none⟩) 0 0 (us.drop (p+1)):=Src.void rfl (by simp) (by have:=h.len;exact List.drop_eq_nil_of_le (by omega));have CAT2:Hid (∀ ww,Za w ww->Calls prog 180 #[.slice (some ⟨ww.heap.size,0,none⟩) 3 3] (ww.alloc (.cells #[.slice (some ⟨b,off,none⟩) p c,.slice bo k d,.slice (some ⟨b,off,none⟩) 0 0] 51)) λ e w' => ∃ v,e=.returned v∧Hid (w'.ownsRow w.heap.size 3 1 v (m-1+k) (us.take p++vs++us.drop (p+1)))∧Za w w'):=λ ww hk=>CAT.out ww _ 0 0 hk S2 (by omega);have W1:Za w w.drew:=Zc.drew (Zc.refl _ _);clear CAT S2 h h2;subst hc1 hm1
  go_enter func183,ntmps183
  go_wp2
  go_region_with ((go_at_call 180;refine (CAT2.out _ W1).mono ?_;rintro e w5 ⟨v,rfl,hr,hk⟩))
  all_goals
   go_wp2;go_ret;exact ⟨_,rfl,hr.out,hk⟩
 ·have CAT2:Hid (∀ ww,Za w ww->Calls prog 180 #[.slice (some ⟨ww.heap.size,0,none⟩) 3 3] (ww.alloc (.cells #[.slice (some ⟨b,off,none⟩) p c,.slice bo k d,.slice (some ⟨b,off+(p+1),none⟩) (m-(p+1)) (c-(p+1))] 51)) λ e w' => ∃ v,e=.returned v∧Hid (w'.ownsRow w.heap.size 3 1 v (m-1+k) (us.take p++vs++us.drop (p+1)))∧Za w w'):=λ ww hk=>CAT.out ww _ (m-(p+1)) (c-(p+1)) hk (h.cutr (p+1) (by omega)) rfl
  have W1:Za w w.drew:=Zc.drew (Zc.refl _ _);clear CAT h h2
  go_enter func183,ntmps183
  go_wp2
  go_region_with ((go_at_call 180;refine (CAT2.out _ W1).mono ?_;rintro e w5 ⟨v,rfl,hr,hk⟩))
  all_goals
   go_wp2;go_ret;exact ⟨_,rfl,hr.out,hk⟩
theorem Zfe {vs:List Value} (h:Src w (some ⟨b,off,none⟩) m c us) (hb:b<w.heap.size) (hmc:m<=c) (h2:Src w bo k d vs) (hp:p<m) (hl:m+k<=10000) :
  Calls prog 181 #[.slice (some ⟨b,off,none⟩) m c,.int .i64 (p:Int),.slice bo k d] w λ e w' => ∃ v,e=.returned v∧w'.ownsRow w.heap.size 51 1 v (m-1+k) (us.take p++vs++us.drop (p+1))∧Za w w' := by
 have ew:IntKind.i64.wrap ((p:Int)+1)=(p:Int)+1:=Zcv (by omega) (by omega);have i1:(0:Int)<=(p:Int):=by omega
 have i2:(p:Int)<=(c:Int):=by omega
 have i3:(p:Int)+1<=(m:Int):=by omega
 have i4:(0:Int)<=(p:Int)+1:=by omega
 have hlen:∀ n,p+k+n=p+k+n:=λ _=>rfl
 have CAT:Hid (∀ (ww:World) (a2:Option Addr) (m2 c2:Nat),Za w ww->Src w a2 m2 c2 (us.drop (p+1))->m2=m-(p+1)->Calls prog 220 #[.slice (some ⟨ww.heap.size,0,none⟩) 3 3] (ww.alloc (.cells #[.slice (some ⟨b,off,none⟩) p c,.slice bo k d,.slice a2 m2 c2] 50)) λ e w' => ∃ v,e=.returned v∧Hid (w'.ownsRow w.heap.size 51 1 v (m-1+k) (us.take p++vs++us.drop (p+1)))∧Za w w'):=by
  intro ww a2 m2 c2 hk hs hm2;have ka:Za ww (ww.alloc (.cells #[.slice (some ⟨b,off,none⟩) p c,.slice bo k d,.slice a2 m2 c2] 50)):=Zal9;have kk:=hk.trans' ka;refine (Zgw (heap_alloc_new ww _) ((h.cutl p (by omega)).same kk) (h2.same kk) (hs.same kk) (by omega)).mono ?_;rintro e w' ⟨v,rfl,hr,h3⟩;refine ⟨v,rfl,?_,kk.trans' h3⟩;have e1:p+k+m2=m-1+k:=by omega
  rw [e1] at hr;exact Yy hr (by rw [World.size_alloc];have:=hk.size;omega)
 by_cases hc1:c=p+1
 ·have hm1:m=p+1:=by omega
  have S2:Src w (some ⟨b,off,none⟩) 0 0 (us.drop (p+1)):=Src.void rfl (by simp) (by have:=h.len;exact List.drop_eq_nil_of_le (by omega));have CAT2:Hid (∀ ww,Za w ww->Calls prog 220 #[.slice (some ⟨ww.heap.size,0,none⟩) 3 3] (ww.alloc (.cells #[.slice (some ⟨b,off,none⟩) p c,.slice bo k d,.slice (some ⟨b,off,none⟩) 0 0] 50)) λ e w' => ∃ v,e=.returned v∧Hid (w'.ownsRow w.heap.size 51 1 v (m-1+k) (us.take p++vs++us.drop (p+1)))∧Za w w'):=λ ww hk=>CAT.out ww _ 0 0 hk S2 (by omega);have W1:Za w w.drew:=Zc.drew (Zc.refl _ _);clear CAT S2 h h2;subst hc1 hm1
  go_enter func181,ntmps181
  go_wp2
  go_region_with ((go_at_call 220;refine (CAT2.out _ W1).mono ?_;rintro e w5 ⟨v,rfl,hr,hk⟩))
  all_goals
   go_wp2;go_ret;exact ⟨_,rfl,hr.out,hk⟩
 ·have CAT2:Hid (∀ ww,Za w ww->Calls prog 220 #[.slice (some ⟨ww.heap.size,0,none⟩) 3 3] (ww.alloc (.cells #[.slice (some ⟨b,off,none⟩) p c,.slice bo k d,.slice (some ⟨b,off+(p+1),none⟩) (m-(p+1)) (c-(p+1))] 50)) λ e w' => ∃ v,e=.returned v∧Hid (w'.ownsRow w.heap.size 51 1 v (m-1+k) (us.take p++vs++us.drop (p+1)))∧Za w w'):=λ ww hk=>CAT.out ww _ (m-(p+1)) (c-(p+1)) hk (h.cutr (p+1) (by omega)) rfl
  have W1:Za w w.drew:=Zc.drew (Zc.refl _ _);clear CAT h h2
  go_enter func181,ntmps181
  go_wp2
  go_region_with ((go_at_call 220;refine (CAT2.out _ W1).mono ?_;rintro e w5 ⟨v,rfl,hr,hk⟩))
  all_goals
   go_wp2;go_ret;exact ⟨_,rfl,hr.out,hk⟩
def Za0 (base g A k:Nat) (P:List (List Int)) (w wr:World):Prop:=∃ ys:List Value,wr.ownsRow base 51 1 (.slice (some ⟨g,0,none⟩) A A) A ys∧Yo wr (ys.take k) P∧Za w wr
theorem Za0.cell (h:Za0 base g A k P w wr) (hk:k<A):∃ old,wr.cell? ⟨g,k,none⟩=some old∧wr.frozen? ⟨g,k,none⟩=false:=by
 obtain ⟨ys,h1,_⟩:=h;exact Zt4 h1 hk
theorem Za0.same {w1:World} (h:Za0 base g A k P w wr) (hk:Za wr w1):Za0 base g A k P w w1:=by
 obtain ⟨ys,h1,h2,h4⟩:=h;exact ⟨ys,hk.row h1 (λ _ _ f=>f),h2.same hk,h4.trans' hk⟩
theorem Za0.next (h:Za0 base g A k P w wr) (hk:k<A) (hg:w.heap.size<=g) {p:List Int} (hp:Js wr ao p ac):Za0 base g A (k+1) (P ++ [p]) w (wr.setCell ⟨g,k,none⟩ (.slice ao p.length ac)):=by
 obtain ⟨ys,h1,h2,h4⟩:=h;have hl:ys.length=A:=by have:=h1.1;omega
 have hgT:∃ cur,wr.heap[g]? = some (.cells cur 51 (0,0)):=Yb h1 rfl;have ks:Zc (λ q=>q=g) wr (wr.setCell ⟨g,k,none⟩ (.slice ao p.length ac)):=Zc.setCell (p:=⟨g,k,none⟩) (Zc.refl (λ q=>q=g) wr) (λ _=>rfl) _
 have nT:∀ q,q=g->∀ cur,wr.heap[q]? ≠ some (.cells cur 3 (0,0)):=λ q e cur hc=>by
  subst e;obtain ⟨c2,h⟩:=hgT;rw [h] at hc;cases hc
 refine ⟨ys.set k (.slice ao p.length ac),(h1.stored k _).1,?_,h4.own hg _⟩;rw [Zm7 (by omega)];refine Yo.append (h2.kept ks nT) ⟨rfl,λ i hi=>?_⟩;obtain rfl:i=0:=by simp at hi;omega
 exact ⟨ao,ac,rfl,hp.kept ks nT⟩
theorem Za0.src (h:Za0 base g A A P w wr):∃ us,Yo wr us P∧Src wr (some ⟨g,0,none⟩) A A us:=by
 obtain ⟨ys,h1,h2,h4⟩:=h;have hl:ys.length=A:=by have:=h1.1;omega
 rw [List.take_of_length_le (by omega)] at h2;exact ⟨ys,h2,hl,h2.one,λ ad e j u hj=>by cases e;exact h1.cells rfl j u hj,λ e=>by cases e⟩
theorem Zbz.src (h:Zbz w po P) (hn:po=none->pc=0):∃ us,Yo w us P∧Src w po P.length pc us:=by
 obtain ⟨us,h1,h2⟩:=h.cells;refine ⟨us,h1,h1.1,h1.one,h2,λ e=>⟨hn e,?_⟩⟩
 rcases h with rfl | ⟨b,off,e', _⟩
 ·exact List.eq_nil_of_length_eq_zero h1.1
 ·rw [e] at e'; cases e'
theorem Arg.src (h:Arg w ao xs ac):Src w ao xs.length ac (iv xs):=by
 refine ⟨Ye xs,Zan xs,λ ad e j u hj=>?_,λ e=>⟨(h.nil e).2,?_⟩⟩
 ·have h0:0<(iv xs).length:=by have:=(List.getElem?_eq_some_iff.1 hj).1;omega
  obtain ⟨ad', e', hc⟩:=h.at'.src h0;rw [e] at e';cases e';exact hc j u hj
 ·have:=(h.nil e).1
  rw [List.eq_nil_of_length_eq_zero this];rfl
theorem Zl0 (l:List Nat) (n:Nat):(iv (ofN l)).take n=iv (ofN (l.take n)):=by simp [iv,ofN,List.map_take]
theorem Zl8 (l:List Nat) (n:Nat):(iv (ofN l)).drop n=iv (ofN (l.drop n)):=by simp [iv,ofN,List.map_drop]
structure Zj9 (w:World) (L:List Sym) (bs:Nat) (po:Option Addr) (pc:Nat) (P:List (List Int)) (c s:Nat) (ho:Option Addr) (H:List Rw):Prop where
 sig:Sg w.heap.size w bs L
 ps:Zbz w po P
 nul:po=none->pc=0
 cap:P.length<=pc
 c' : c<P.length
 s' : s<L.length
 hs:Ze8 w ho H
 le:H.length<=100
 few:P.length<=4000
 len:∀ p∈P,p.length<=4000
 ok:∀ x∈H,Zd L x.2.1=0∧x.2.2.length=P.length∧(∀ p∈x.2.2,p<x.2.1.length)∧Vr x c=(s:Int)
theorem Zj9.same (h:Zj9 w L bs po pc P c s ho H) (hk:Za w w'):Zj9 w' L bs po pc P c s ho H:=
 ⟨Zbs (h.sig.same hk) hk.size,h.ps.same hk,h.nul,h.cap,h.c', h.s', h.hs.same hk,h.le,h.few,h.len,h.ok⟩
def Zxa (w:World) (L:List Sym) (bs:Nat) (P:List (List Int)) (c s:Nat) (H:List Rw) (e:Ending) (w' : World):Prop:=
 ∃ po pc ro rc,e=.returned (.agg #[.pointer (some ⟨bs,0,none⟩),.slice po (Y4 L P c s).length pc,.slice ro H.length rc])∧Zbz w' po (Y4 L P c s)∧(po=none->pc=0)∧(Y4 L P c s).length<=pc∧Ze8 w' ro (H.map (Je L c))∧(ro=none->rc=0)∧Za w w'
def Zcn (L:List Sym) (P:List (List Int)) (c k:Nat):List (List Int):=(List.range k).map (λ (i:Nat)=>P.getD c [] ++ [(i:Int)])
theorem Zll (L:List Sym) (P:List (List Int)) (c k:Nat):Zcn L P c (k+1)=Zcn L P c k ++ [P.getD c [] ++ [(k:Int)]]:=by simp [Zcn,List.range_succ]
theorem Zq4 {s:Nat} (h:Zj9 w L bs po pc P c s ho H) (hA:A=arN L (s:Int)) (hA6:A<=6) (hl:Za0 base g A A (Zcn L P c A) w0 w) :
  Calls prog 181 #[.slice po P.length pc,.int .i64 (c:Int),.slice (some ⟨g,0,none⟩) A A] w λ e w' => ∃ vo vc,e=.returned (.slice vo (Y4 L P c s).length vc)∧Zbz w' vo (Y4 L P c s)∧(vo=none->vc=0)∧(Y4 L P c s).length<=vc∧Za w w' := by
 obtain ⟨us,u1,u2⟩:=h.ps.src h.nul;obtain ⟨vs,v1,v2⟩:=hl.src;obtain ⟨b,off,ao,ac,rfl,hb,_⟩:=h.ps.get h.c';refine (Zfe u2 hb h.cap v2 h.c' (by have:=h.few;omega)).mono ?_;rintro e w' ⟨v,rfl,hr,hk⟩
 have hc:Yo w' (us.take c++vs++us.drop (c+1)) (Y4 L P c s):=by
  unfold Y4 Zh4;rw [<- hA];exact (((u1.take c).append v1).append (u1.drop (c+1))).same hk
 obtain ⟨vo,vc,e1,e2,e3,e4⟩:=Ztp hr hc;exact ⟨vo,vc,by rw [e1],e2,e3,e4,hk⟩
end
section
open Go.RowKit
theorem Zu4 (W:World) (v:Value):(Instr.typeAssert (.iface 114 v) 46 114 true).run prog W=.ok (.tuple #[v,.bool true]) W:=by kernel_rfl
theorem Zul (W:World) (v:Value):(Instr.typeAssert (.iface 70 v) 46 70 true).run prog W=.ok (.tuple #[v,.bool true]) W:=by kernel_rfl
theorem sm_nil (W:World):(binOp .eql 46 .nilIface .nilIface).run prog W=.ok (.bool true) W:=by kernel_rfl
def Xh (w:World) (lv:Value) (ws:List (Int × Int)):Prop:=
 ∃ lo lc,lv=.slice lo ws.length lc∧(ws=[]∨∃ b,lo=some ⟨b,0,none⟩∧b<w.heap.size∧∀ i (h:i<ws.length),w.cell? ⟨b,i * 2,none⟩=some (.int .i64 ws[i].1)∧w.cell? ⟨b,i * 2+1,none⟩=some (.int .i64 ws[i].2))
theorem Xh.same (h:Xh w lv ws) (hk:Za w w'):Xh w' lv ws:=by
 obtain ⟨lo,lc,e,h⟩:=h;refine ⟨lo,lc,e,h.imp id ?_⟩;rintro ⟨b,e,hb,hc⟩;exact ⟨b,e,Nat.lt_of_lt_of_le hb hk.size,λ i hi=>⟨(hk.cell (p:=⟨b,i * 2,none⟩) hb (λ f=>f)).trans (hc i hi).1,(hk.cell (p:=⟨b,i * 2+1,none⟩) hb (λ f=>f)).trans (hc i hi).2⟩⟩
theorem Ze3 {er:Value} (h:Zn w ws er) (hl:Xh w lv ws) (hn:ws.length<=1000) :
  Calls prog 35 #[er,lv] w λ e w' => e=.returned (.bool true)∧Za w w' := by
 obtain ⟨lo,lc,rfl,hl⟩:=hl
 go_enter func35,ntmps35
 go_wp2
 go_loopw [0,5] (λ er i wr=>∃ m k:Nat,k<=ws.length∧wr=w.drewN m∧i=.int .i64 (k:Int)∧Hid (Zn w (ws.drop k) er)) (λ _ i _=>ws.length-(intOf i).toNat)
 case atStart=>exact ⟨0,0,Nat.zero_le _,rfl,rfl,h⟩
 case round=>
  clear h;obtain ⟨m,k,hk,rfl,rfl,hf⟩:=hrel
  by_cases hlt:k<ws.length
  ·obtain ⟨b,rfl,_,hc⟩:∃ b,lo=some ⟨b,0,none⟩∧b<w.heap.size∧∀ i (h:i<ws.length),w.cell? ⟨b,i * 2,none⟩=some (.int .i64 ws[i].1)∧w.cell? ⟨b,i * 2+1,none⟩=some (.int .i64 ws[i].2):=by
    rcases hl with e | e
    ·rw [e] at hlt;simp at hlt
    ·exact e
   obtain ⟨g0,g1⟩:=hc k hlt;have i1:(0:Int)<=(k:Int):=by omega
   have i2:(k:Int)<(ws.length:Int):=by omega
   have hf' := hf.out;rw [List.drop_eq_getElem_cons hlt] at hf';obtain ⟨c,p,hcp⟩:∃ c p,ws[k]=(c,p):=⟨_,_,rfl⟩;rw [hcp] at hf' g0 g1;simp only at g0 g1
   rcases hf' with ⟨rfl,hnil,rfl⟩ | ⟨hp,d,u,rfl,hd,hu⟩
   ·have hlast:(k:Int)=(ws.length:Int)-1:=by
     have:=congrArg List.length hnil;simp at this;omega
    have hlast' : ((k:Int) == (ws.length:Int)-1)=true:=by simpa using hlast
    have hta:=λ v=>Zul (w.drewN m) v;clear hc hf hnil hlast hl hcp;go_wp2;go_ret;exact ⟨by first | rfl | simp,(Zc.refl _ w).drewN m⟩
   ·have b0:w.cell? ⟨d,0,none⟩=some (.int .i64 c):=Zb hd 0
    have b1:w.cell? ⟨d,1,none⟩=some (.int .i64 p):=Zb hd 1;have b2:w.cell? ⟨d,2,none⟩=some u:=Zb hd 2;have hp1:(p == -1)=false:=by simpa using hp
    have hta:=λ v=>Zu4 (w.drewN m) v;have HU:Hid (Zn w (ws.drop (k+1)) u):=hu;clear hc hf hd hu hp hl hcp;go_wp2;clear hta hp1;go_quiet (fail);go_wp2;exact ⟨⟨m+nq,k+1,by omega,rfl,by go_num,HU⟩,by simp [intOf];omega⟩
  ·have hf' := hf.out
   rw [List.drop_of_length_le (by omega)] at hf';obtain rfl:_=Value.nilIface:=hf';have hnn:=sm_nil (w.drewN m);go_wp2;go_ret;exact ⟨rfl,(Zc.refl _ w).drewN m⟩
end
section
open Go.RowKit
attribute [local go_sem ↓] Go.wp_at_zero Go.wp_at_succ
theorem Zno (h:Sg w.heap.size w bs L):Calls prog 72 #[.pointer (some ⟨bs,0,none⟩)] w λ e w' => e=.returned (.pointer (some ⟨w.heap.size,0,none⟩))∧X6 w' w.heap.size bs L [] (.slice none 0 0) []∧Za w w' := by
 have K:Za w (w.alloc (.cells #[.pointer (some ⟨bs,0,none⟩),.slice none 0 0] 113)):=(Zc.refl _ w).alloc _;have H:Hid (X6 (w.alloc (.cells #[.pointer (some ⟨bs,0,none⟩),.slice none 0 0] 113)) w.heap.size bs L [] (.slice none 0 0) []):=⟨heap_alloc_new _ _,Zbs (h.same K) K.size,World.ownsRow_nil _ _ _ _,⟨rfl,λ i hi=>absurd hi (by simp)⟩,by simp,λ x hx=>by simp at hx⟩;clear h
 go_enter func72,ntmps72
 go_wp2;go_ret;exact ⟨rfl,H.out,K⟩
abbrev fS:Sym:=⟨⟨#[102]⟩,1,true⟩
abbrev L4:List Sym:=[zS,aS,aAdd,fS]
theorem Xq (w:World) (xs:List Int) (T:TypeId) (hx:xs.length<=2000) (ho:o=.cells (iv xs).toArray T (0,0)):Arg (w.alloc o) (some ⟨w.heap.size,0,none⟩) xs xs.length:=
 ⟨Zvb w xs T ho,Nat.le_refl _,(λ e=>by cases e),by omega⟩
theorem Ze7 (w:World) (ws:List (Int × Int)) (cs:Array Value) (T:TypeId) (ho:o=.cells cs T (0,0)) (hc:∀ i (h:i<ws.length),cs[i * 2]? = some (.int .i64 ws[i].1)∧cs[i * 2+1]? = some (.int .i64 ws[i].2)) (n:Nat) (hn:n=ws.length):Xh (w.alloc o) (.slice (some ⟨w.heap.size,0,none⟩) n n) ws:=by
 subst ho hn;exact ⟨_,_,rfl,.inr ⟨_,rfl,by simp,λ i hi=>⟨(Zb (heap_alloc_new w _) _).trans (hc i hi).1,(Zb (heap_alloc_new w _) _).trans (hc i hi).2⟩⟩⟩
def Zi3 (W1:World) (bs:Nat) (Q:List (List Int)) (wr:World) (s13:Value) (wc:World):Prop:=
 ∃ kb vo vc,s13=.pointer (some ⟨kb,0,none⟩)∧W1.heap.size<=kb∧wc.heap[kb]? = some (.cells #[.pointer (some ⟨bs,0,none⟩),.slice vo Q.length vc,.slice none 0 0] 181 (0,0))∧Zbz wc vo Q∧(vo=none->vc=0)∧Q.length<=vc∧Za wr wc
abbrev Zbj:Obj:=.cells #[.pointer none,.slice none 0 0,.slice none 0 0] 181
theorem Zux (h1:Za W1 wr) (h2:Za wr w8) (hp:Zbz w8 vo Q) (hn:vo=none->vc=0) (hl:Q.length<=vc):Zi3 W1 bs Q wr (.pointer (some ⟨w8.heap.size,0,none⟩)) (w8.alloc (.cells #[.pointer (some ⟨bs,0,none⟩),.slice vo Q.length vc,.slice none 0 0] 181)):=
 ⟨_,vo,vc,rfl,(h1.trans' h2).size,heap_alloc_new _ _,hp.same (Zal9),hn,hl,h2.alloc _⟩
theorem Zwi (h1:Za W1 wr) (h2:Za (wr.alloc Zbj).drew w8) (hp:Zbz w8 vo Q) (hn:vo=none->vc=0) (hl:Q.length<=vc) :
  Zi3 W1 bs Q wr (.pointer (some ⟨wr.heap.size,0,none⟩)) (((w8.setCell ⟨wr.heap.size,0,none⟩ (.pointer (some ⟨bs,0,none⟩))).setCell ⟨wr.heap.size,1,none⟩ (.slice vo Q.length vc)).setCell ⟨wr.heap.size,2,none⟩ (.slice none 0 0)):=by
 have hb:w8.heap[wr.heap.size]? = some (.cells #[.pointer none,.slice none 0 0,.slice none 0 0] 181 (0,0)):=h2.at0 (heap_alloc_new wr _);have ha:Za wr (wr.alloc Zbj).drew:=((Zc.refl _ wr).alloc _).drew;have hk:Za wr w8:=ha.trans' h2;have s1:=Zt hb 0 (.pointer (some ⟨bs,0,none⟩));have s2:=Zt s1 1 (.slice vo Q.length vc);have s3:=Zt s2 2 (.slice none 0 0)
 have kk:Zc (λ q=>q=wr.heap.size) w8 (((w8.setCell ⟨wr.heap.size,0,none⟩ (.pointer (some ⟨bs,0,none⟩))).setCell ⟨wr.heap.size,1,none⟩ (.slice vo Q.length vc)).setCell ⟨wr.heap.size,2,none⟩ (.slice none 0 0)):=by
  have k1:=Zc.setCell (p:=⟨wr.heap.size,0,none⟩) (Zc.refl (λ q=>q=wr.heap.size) w8) (λ _=>rfl) (.pointer (some ⟨bs,0,none⟩));have k2:=Zc.setCell (p:=⟨wr.heap.size,1,none⟩) k1 (λ _=>rfl) (.slice vo Q.length vc);exact Zc.setCell (p:=⟨wr.heap.size,2,none⟩) k2 (λ _=>rfl) (.slice none 0 0)
 exact ⟨_,vo,vc,rfl,h1.size,s3,hp.keptN kk (λ q e=>by subst e;exact ⟨_,hb⟩),hn,hl,Zc.trans hk kk (λ i hi e=>by omega)⟩
theorem Zr0 (h:Zj9 w L bs po pc P c s ho H) {no:Option Addr} {nl nc hcap:Nat} :
  Calls prog 131 #[.agg #[.pointer (some ⟨bs,0,none⟩),.slice po P.length pc,.slice no nl nc],.int .i64 (c:Int),.int .i64 (s:Int),.slice ho H.length hcap] w (Zxa w L bs P c s H):=by
 have hc:=h.c';have hs' := h.s';have hle:=h.le;have hfew:=h.few;have hpl:=h.len _ (List.getElem_mem hc);have har:((arN L (s:Int):Nat):Int)=L[s].ar:=Zrs h.sig.2 h.s';have hA6:=Vm h.sig.2 (s:Int);obtain ⟨W1,hW1⟩:∃ W1,W1=(w.alloc (.cells #[.pointer (some ⟨bs,0,none⟩),.slice po P.length pc,.slice no nl nc] 181)).alloc (.cells #[.pointer none,.slice none 0 0,.slice none 0 0] 181):=⟨_,rfl⟩;have KW:Za w W1:=by rw [hW1];exact ((Zc.refl _ w).alloc _).alloc _
 have HH:Hid (∀ ww,Za W1 ww->Zj9 ww L bs po pc P c s ho H):=λ ww hk=>h.same (KW.trans' hk)
 have BX:Hid (∀ ww,Za W1 ww->ww.cell? ⟨w.heap.size,0,none⟩=some (.pointer (some ⟨bs,0,none⟩))∧ww.cell? ⟨w.heap.size,1,none⟩=some (.slice po P.length pc)):=λ ww hk=>by
  have hb:W1.heap[w.heap.size]? = some (.cells #[.pointer (some ⟨bs,0,none⟩),.slice po P.length pc,.slice no nl nc] 181 (0,0)):=by rw [hW1];exact heap_alloc2_old _ _ _
  exact ⟨Zb (hk.at0 hb) 0,Zb (hk.at0 hb) 1⟩
 have RS:Hid (∀ ww,Za W1 ww->ww.heap[w.heap.size+1]? = some (.cells #[.pointer none,.slice none 0 0,.slice none 0 0] 181 (0,0))):=λ ww hk=>hk.at0 (by rw [hW1];exact Zo _ _ _)
 have CA:Hid (∀ ww,Za W1 ww->Calls prog 128 #[.pointer (some ⟨bs,0,none⟩),.int .i64 (s:Int)] ww λ e w' => e=.returned (.tuple #[.agg #[.string L[s].name,.int .i64 ((arN L (s:Int):Nat):Int),.bool L[s].df],.int .i64 0])∧Za ww w'):=λ ww hk=>by
  have:=Zdy (HH.out ww hk).sig h.s';rw [har];exact this
 obtain ⟨pb,poff,ao,ac,rfl,hpb,hcell,hArg⟩:=h.ps.get hc;have PC:Hid (∀ ww,Za w ww->ww.cell? ⟨pb,poff+c,none⟩=some (.slice ao P[c].length ac)):=λ ww hk=>(hk.cell (p:=⟨pb,poff+c,none⟩) hpb (λ f=>f)).trans hcell
 have CAT:Hid (∀ (ww:World) (k:Nat),Za w ww->Calls prog 180 #[.slice (some ⟨ww.heap.size+1,0,none⟩) 2 2] ((ww.alloc (.cells #[.int .i64 (k:Int)] 3)).alloc (.cells #[.slice ao P[c].length ac,.slice (some ⟨ww.heap.size,0,none⟩) 1 1] 51)) λ e w' => ∃ vo vc,e=.returned (.slice vo (P[c].length+1) vc)∧Hid (Js w' vo (P[c] ++ [(k:Int)]) vc)∧Za ww w'):=by
  intro ww k hk;have k1:Za ww (ww.alloc (.cells #[.int .i64 (k:Int)] 3)):=Zal9;have k2:Za (ww.alloc (.cells #[.int .i64 (k:Int)] 3)) ((ww.alloc (.cells #[.int .i64 (k:Int)] 3)).alloc (.cells #[.slice ao P[c].length ac,.slice (some ⟨ww.heap.size,0,none⟩) 1 1] 51)):=Zal9;have s1:Src ((ww.alloc (.cells #[.int .i64 (k:Int)] 3)).alloc (.cells #[.slice ao P[c].length ac,.slice (some ⟨ww.heap.size,0,none⟩) 1 1] 51)) (some ⟨ww.heap.size,0,none⟩) 1 1 (iv [(k:Int)]):=((Xq ww [(k:Int)] 3 (by simp) rfl).src).same k2;refine (Ziy (Zo _ _ _) ((hArg.1.same ((hk.trans' k1).trans' k2)).src) s1 (by omega)).mono ?_;rintro e w' ⟨v,rfl,hr,hk3⟩
  have hr' : Row ww.heap.size w' v (P[c] ++ [(k:Int)]):=by
   unfold Row;rw [Xz,List.length_append];exact Yy hr (by simp only [World.size_alloc];omega)
  obtain ⟨vo,vc,rfl,a1,_⟩:=hr'.arg (by simp;omega);exact ⟨vo,vc,by simp,a1,(k1.trans' k2).trans' hk3⟩
 obtain ⟨i,hi,hz0,hz1,hz2⟩:=info_parts Zcf;generalize hA:arN L (s:Int)=A at *;have HA:Hid (arN L (s:Int)=A):=hA;have hPc:Hid (P.getD c []=P[c]):=Xi hc [];clear hA har hcell hArg h
 go_enter func131,ntmps131
 go_upto_region 1 with fail
 rw [<- hW1];have ez:w.heap.size+1<W1.heap.size:=by rw [hW1];simp
 clear hW1;obtain ⟨b0,b1⟩:=BX.out W1 (Zc.refl _ _);have C1:=CA.out W1 (Zc.refl _ _)
 go_wp2_with (first
  | (go_at_call 128;refine C1.mono ?_;rintro e w2 ⟨rfl,hk2⟩)
  | (at_make;refine wpList_make_full _ rfl _ _ 50 rfl w.heap.size 51 i _ 1 underlying50 hi hz0 hz1 _ _ _ _ A rfl rfl rfl rfl (by rw [hz2];omega) (by unfold maxLen;omega) (Nat.le_trans KW.size (Nat.le_trans hk2.size (by simp))) ?_;intro w3 hown hgrow;have hk3:Za (w2.alloc (.cells #[.string L[s].name,.int .i64 (A:Int),.bool L[s].df] 60)) w3:=Za.grown (Zc.refl _ _) hgrow;have y1:w3.cell? ⟨w2.heap.size,1,none⟩=some (.int .i64 (A:Int)):=Zb (hk3.at0 (heap_alloc_new w2 _)) 1))
 simp only [World.size_alloc] at hown;have k3:Za W1 w3:=hk2.trans' (Za.trans' ((Zc.refl _ w2).alloc _) hk3);obtain ⟨g,hg⟩:∃ g,g=w2.heap.size+1:=⟨_,rfl⟩;have hgW:W1.heap.size<=g:=by rw [hg];have:=hk2.size;omega
 rw [<- hg] at hown ⊢;have L0:Hid (Za0 w.heap.size g A 0 (Zcn L P c 0) W1 w3):=⟨_,hown,by simpa [Zcn] using Yo.nil w3,k3⟩;clear hown hgrow hk3 y1 hg C1 b0 b1 CA hi hz0 hz1 hz2
 go_loopw [30] (λ i wr=>∃ k:Nat,k<=A∧i=.int .i64 (k:Int)∧Hid (Za0 w.heap.size g A k (Zcn L P c k) W1 wr)) (λ i _=>A-(intOf i).toNat)
 case atStart=>exact ⟨0,Nat.zero_le _,rfl,L0⟩
 case round=>
  clear L0;obtain ⟨k,hkA,rfl,hL⟩:=hrel;have kr:Za W1 wr:=by obtain ⟨_,_,_,q⟩:=hL.out;exact q
  obtain ⟨b0,b1⟩:=BX.out wr kr
  by_cases hlt:k<A
  ·obtain ⟨old,f1,f2⟩:=hL.out.cell hlt
   have p1:=PC.out wr (KW.trans' kr);have CC:=CAT.out wr k (KW.trans' kr);have i1:(0:Int)<=(c:Int):=by omega
   have i2:(c:Int)<(P.length:Int):=by omega
   have i3:(0:Int)<=(k:Int):=by omega
   have i4:(k:Int)<(A:Int):=by omega
   have FIN:Hid (∀ w5 vo vc,Za wr w5->Js w5 vo (P[c] ++ [(k:Int)]) vc->(∃ old,w5.cell? ⟨g,k,none⟩=some old∧w5.frozen? ⟨g,k,none⟩=false)∧Hid (Za0 w.heap.size g A (k+1) (Zcn L P c (k+1)) W1 (w5.setCell ⟨g,k,none⟩ (.slice vo (P[c].length+1) vc)))):=λ w5 vo vc k5 a5=>by
    have l5:=hL.out.same k5;refine ⟨l5.cell hlt,?_⟩;show Za0 _ _ _ _ _ _ _;have:=l5.next hlt hgW a5;rw [Zll,hPc.out]
    simpa using this
   clear hL
   go_wp2_with (first
    | (go_at_call 180;refine CC.mono ?_;rintro e w5 ⟨vo,vc,rfl,ha5,hk5⟩;obtain ⟨⟨old5,q1,q2⟩,q3⟩:=FIN.out w5 vo vc hk5 ha5.out))
   exact ⟨⟨k+1,by omega,by go_num,q3⟩,by simp [intOf];omega⟩
  ·obtain rfl:k=A:=by omega
   clear CAT PC;have KPH:Hid (∀ ww,Za wr ww->Calls prog 181 #[.slice (some ⟨pb,poff,none⟩) P.length pc,.int .i64 (c:Int),.slice (some ⟨g,0,none⟩) k k] ww λ e w' => ∃ vo vc,e=.returned (.slice vo (Y4 L P c s).length vc)∧Hid (Zbz w' vo (Y4 L P c s)∧(vo=none->vc=0)∧(Y4 L P c s).length<=vc)∧Za ww w'):=λ ww hk=>(Zq4 (HH.out ww (kr.trans' hk)) HA.out.symm hA6 (hL.out.same hk)).mono (λ e w' ⟨vo,vc,q1,q2,q3,q4,q5⟩=>⟨vo,vc,q1,⟨q2,q3,q4⟩,q5⟩);clear hL
   go_upto_region 8 with fail
   go_cut [13] from 46 to 53 (λ s13 wc=>Zi3 W1 bs (Y4 L P c s) wr s13 wc)
   case first=>
    have FA:Hid (∀ w8 vo vc,Za wr.drew w8->Zbz w8 vo (Y4 L P c s)∧(vo=none->vc=0)∧(Y4 L P c s).length<=vc->Zi3 W1 bs (Y4 L P c s) wr (.pointer (some ⟨w8.heap.size,0,none⟩)) (w8.alloc (.cells #[.pointer (some ⟨bs,0,none⟩),.slice vo (Y4 L P c s).length vc,.slice none 0 0] 181))):=λ w8 vo vc h2 q=>Zux kr (Za.trans' ((Zc.refl _ wr).drew) h2) q.1 q.2.1 q.2.2;have FB:Hid (∀ w8 vo vc,Za (wr.alloc Zbj).drew w8->Zbz w8 vo (Y4 L P c s)∧(vo=none->vc=0)∧(Y4 L P c s).length<=vc->Zi3 W1 bs (Y4 L P c s) wr (.pointer (some ⟨wr.heap.size,0,none⟩)) (((w8.setCell ⟨wr.heap.size,0,none⟩ (.pointer (some ⟨bs,0,none⟩))).setCell ⟨wr.heap.size,1,none⟩ (.slice vo (Y4 L P c s).length vc)).setCell ⟨wr.heap.size,2,none⟩ (.slice none 0 0))):=λ w8 vo vc h2 q=>Zwi kr h2 q.1 q.2.1 q.2.2;have d0:wr.drew.cell? ⟨w.heap.size,0,none⟩=some (.pointer (some ⟨bs,0,none⟩)):=b0;have d1:wr.drew.cell? ⟨w.heap.size,1,none⟩=some (.slice (some ⟨pb,poff,none⟩) P.length pc):=b1;have WA:Za wr wr.drew:=(Zc.refl _ wr).drew;have WB:Za wr (wr.alloc Zbj).drew:=((Zc.refl _ wr).alloc _).drew;have BY:Hid (∀ ww,Za wr ww->ww.cell? ⟨w.heap.size,0,none⟩=some (.pointer (some ⟨bs,0,none⟩))∧ww.cell? ⟨w.heap.size,1,none⟩=some (.slice (some ⟨pb,poff,none⟩) P.length pc)):=λ ww hk=>BX.out ww (kr.trans' hk);obtain ⟨g0,g1⟩:=BY.out _ WB
    have ZB:Hid (∀ w8,Za (wr.alloc Zbj).drew w8->(w8.cell? ⟨wr.heap.size,0,none⟩=some (.pointer none)∧w8.cell? ⟨wr.heap.size,1,none⟩=some (.slice none 0 0)∧w8.cell? ⟨wr.heap.size,2,none⟩=some (.slice none 0 0))∧w8.frozen? ⟨wr.heap.size,0,none⟩=false∧w8.frozen? ⟨wr.heap.size,1,none⟩=false∧w8.frozen? ⟨wr.heap.size,2,none⟩=false):=λ w8 h8=>by
     have hb:w8.heap[wr.heap.size]? = some (.cells #[.pointer none,.slice none 0 0,.slice none 0 0] 181 (0,0)):=h8.at0 (heap_alloc_new wr _);exact ⟨⟨Zb hb 0,Zb hb 1,Zb hb 2⟩,Zg hb 0,Zg hb 1,Zg hb 2⟩
    clear KW k3 HH BX RS;generalize (Y4 L P c s)=KPL at *;have SB:Hid (∀ w8 x0 x1 x2,Za wr w8->Za wr (((w8.setCell ⟨wr.heap.size,0,none⟩ x0).setCell ⟨wr.heap.size,1,none⟩ x1).setCell ⟨wr.heap.size,2,none⟩ x2)):=λ w8 x0 x1 x2 h8=>((h8.own (Nat.le_refl _) x0).own (Nat.le_refl _) x1).own (Nat.le_refl _) x2;have CC0:=And.intro b0 b1
    go_region_held3 (λ w' => w'.cell? ⟨w.heap.size,0,none⟩=some (.pointer (some ⟨bs,0,none⟩))∧w'.cell? ⟨w.heap.size,1,none⟩=some (.slice (some ⟨pb,poff,none⟩) P.length pc)) (first | exact CC0 | exact BY.out _ (by first | assumption | exact Zc.alloc (by assumption) _ | exact SB.out _ _ _ _ k8 | exact Zc.alloc (Zc.refl _ _) _ | exact Zc.drew (Zc.alloc (Zc.refl _ _) _) | exact Zc.alloc (Zc.drew (Zc.refl _ _)) _)) (first
     | (go_at_call 181;refine (KPH.out _ WA).mono ?_;rintro e w8 ⟨vo,vc,rfl,z1,z4⟩;have k8:=WA.trans' z4;obtain ⟨e0,e1⟩:=BY.out w8 k8;have KC:=FA.out w8 vo vc z4 z1.out)
     | (go_at_call 181;refine (KPH.out _ WB).mono ?_;rintro e w8 ⟨vo,vc,rfl,z1,z4⟩;have k8:=WB.trans' z4;obtain ⟨e0,e1⟩:=BY.out w8 k8;obtain ⟨⟨y0,y1,y2⟩,y3,y4,y5⟩:=ZB.out w8 z4;have KC:=FB.out w8 vo vc z4 z1.out))
    all_goals
     go_wp2_with fail
     go_meet;exact KC
   case rest=>
    obtain ⟨kb,vo,vc,rfl,hkb,hN0,hps,hvn,hvc,k8⟩:=hcut;obtain ⟨we,rfl⟩:∃ we,we=wc:=⟨_,rfl⟩;have K8:Za W1 we:=kr.trans' k8;have HPS:Hid (Zbz we vo (Y4 L P c s)):=hps;have HVN:Hid ((vo=none->vc=0)∧(Y4 L P c s).length<=vc):=⟨hvn,hvc⟩;have hkbl:kb<we.heap.size:=Zi hN0;generalize hkp:Y4 L P c s=KPL at *;have HKP:Hid (Y4 L P c s=KPL):=hkp;have HN0:Hid (we.heap[kb]? = some (.cells #[.pointer (some ⟨bs,0,none⟩),.slice vo KPL.length vc,.slice none 0 0] 181 (0,0))):=hN0;clear KPH b0 b1 hps hvn hvc kr k8 hkp k3 hk2 hgW hN0
    go_wp2_with fail
    go_loopw [56] (λ i wr=>∃ (k:Nat) (lv:Value) (us:List Value),k<=H.length∧i=.int .i64 (k:Int)∧Hid (wr.heap[kb]? = some (.cells #[.pointer (some ⟨bs,0,none⟩),.slice vo KPL.length vc,lv] 181 (0,0)))∧Hid (wr.ownsRow we.heap.size 246 3 lv k us)∧Hid (Yx wr us ((H.take k).map (Je L c)))∧Za W1 wr∧Zc (λ q=>q=kb) we wr) (λ i _=>H.length-(intOf i).toNat)
    case atStart=>exact ⟨0,.slice none 0 0,[],Nat.zero_le _,rfl,HN0,World.ownsRow_nil _ _ _ _,by simpa [Hid] using Yx.nil _,K8,Zc.refl _ _⟩
    case round=>
     obtain ⟨j,lv,us,hj,rfl,hN,hr,hus,hw,hwe⟩:=hrel;obtain ⟨lo,lc,rfl⟩:=Zf hr.out;obtain ⟨b0,b1⟩:=BX.out wr hw
     by_cases hlt:j<H.length
     ·have HI:=HH.out wr hw
      obtain ⟨hb,hoff,rfl,hhb,xo,xc,yo,yc,r0,r1,r2,A1,A2⟩:=HI.hs.get hlt;obtain ⟨ok1,ok2,ok3,ok4⟩:=HI.ok _ (List.getElem_mem hlt);have hc2:c<H[j].2.2.length:=by omega
      have hp2:=ok3 _ (List.getElem_mem hc2);have hT:=Ze.1 ok1;have i1:(0:Int)<=(j:Int):=by omega
      have i2:(j:Int)<(H.length:Int):=by omega
      have i3:(0:Int)<=(c:Int):=by omega
      have i4:(c:Int)<(H[j].2.2.length:Int):=by omega
      obtain ⟨WB,hWB⟩:∃ WB,WB=wr.alloc (.cells #[.int .i64 H[j].1,.slice xo H[j].2.1.length xc,.slice yo H[j].2.2.length yc] 246):=⟨_,rfl⟩;have kB:Za wr WB:=by rw [hWB];exact Zal9
      obtain ⟨pb2,poff2,rfl,hpb2,hpc2⟩:=A2.1.at'.get (i:=c) (by rw [V1];exact hc2);have e2:(ofN H[j].2.2)[c]'(by rw [V1];exact hc2)=((H[j].2.2[c]:Nat):Int):=by simp [ofN]
      rw [e2] at hpc2;have hpE:Zz L H[j].2.1 ((H[j].2.2[c]:Nat):Int)=0:=by unfold Zz;rw [if_neg (by simp [ok1]),if_neg (by omega)]
      have CAR:Hid (∀ m,Calls prog 182 #[.pointer (some ⟨bs,0,none⟩),.slice xo H[j].2.1.length xc,.int .i64 ((H[j].2.2[c]:Nat):Int)] (WB.drewN m) λ e w' => ∃ qo qc,e=.returned (.tuple #[.slice qo (Z8 L H[j].2.1 H[j].2.2[c]).length qc,.int .i64 0])∧Hid (Js w' qo (ofN (Z8 L H[j].2.1 H[j].2.2[c])) qc)∧Za WB w'):=λ m=>by
       have km:Za WB (WB.drewN m):=(Zc.refl _ _).drewN m;refine (Zww (cap:=xc) (HH.out _ ((hw.trans' kB).trans' km)).sig ((A1.same kB).same km).1.at' (by unfold maxLen;omega) _).mono ?_;rintro e w' ⟨v,rfl,hrow,hk'⟩;rw [Zop,if_pos hpE] at hrow;simp only [Int.toNat_natCast] at hrow;have hlen:(Z8 L H[j].2.1 H[j].2.2[c]).length<=6:=by rw [Z9 hp2,Zk];exact Vm HI.sig.2 _
       obtain ⟨qo,qc,rfl,a1,_⟩:=hrow.arg (by rw [V1];omega);exact ⟨qo,qc,by rw [hpE,V1],a1,km.trans' hk'⟩
      have kbT:∀ ww,Za wr ww->ww.heap[kb]? = some (.cells #[.pointer (some ⟨bs,0,none⟩),.slice vo KPL.length vc,.slice lo j lc] 181 (0,0)):=λ ww hk=>hk.at0 hN.out
      have CELLS:Hid (∀ ww,Za WB ww->(ww.cell? ⟨kb,2,none⟩=some (.slice lo j lc)∧ww.cell? ⟨w.heap.size,0,none⟩=some (.pointer (some ⟨bs,0,none⟩)))∧ww.cell? ⟨wr.heap.size,0,none⟩=some (.int .i64 H[j].1)∧ww.cell? ⟨wr.heap.size,1,none⟩=some (.slice xo H[j].2.1.length xc)∧ww.cell? ⟨wr.heap.size,2,none⟩=some (.slice (some ⟨pb2,poff2,none⟩) H[j].2.2.length yc)∧ww.cell? ⟨pb2,poff2+c,none⟩=some (.int .i64 ((H[j].2.2[c]:Nat):Int))):=λ ww hk=>by
       have hbx:WB.heap[wr.heap.size]? = some (.cells #[.int .i64 H[j].1,.slice xo H[j].2.1.length xc,.slice (some ⟨pb2,poff2,none⟩) H[j].2.2.length yc] 246 (0,0)):=by rw [hWB];exact heap_alloc_new _ _
       exact ⟨⟨Zb (kbT ww (kB.trans' hk)) 2,(BX.out ww ((hw.trans' kB).trans' hk)).1⟩,Zb (hk.at0 hbx) 0,Zb (hk.at0 hbx) 1,Zb (hk.at0 hbx) 2,((kB.trans' hk).cell (p:=⟨pb2,poff2+c,none⟩) hpb2 (λ f=>f)).trans hpc2⟩
      have CR:Hid (∀ (ww:World) qo qc,Za WB ww->Js ww qo (ofN (Z8 L H[j].2.1 H[j].2.2[c])) qc->Calls prog 183 #[.slice (some ⟨pb2,poff2,none⟩) H[j].2.2.length yc,.int .i64 (c:Int),.slice qo (Z8 L H[j].2.1 H[j].2.2[c]).length qc] ww λ e w' => ∃ zo zc,e=.returned (.slice zo (Je L c H[j]).2.2.length zc)∧Hid (Js w' zo (ofN (Je L c H[j]).2.2) zc)∧Za WB w'):=λ ww qo qc hk ha=>by
       have s0:=((A2.same kB).same hk).1.src;have s1:=ha.1.src;rw [V1] at s0 s1;have hcp:=A2.1.cap';rw [V1] at hcp;have hlen:(Z8 L H[j].2.1 H[j].2.2[c]).length<=6:=by rw [Z9 hp2,Zk];exact Vm HI.sig.2 _
       refine (Zhd s0 (Nat.lt_of_lt_of_le hpb2 (kB.trans' hk).size) hcp s1 hc2 (by omega)).mono ?_;rintro e w' ⟨v,rfl,hrow,hk'⟩
       have hx:(Je L c H[j]).2.2=H[j].2.2.take c++Z8 L H[j].2.1 H[j].2.2[c]++H[j].2.2.drop (c+1):=by
        simp only [Je,Zh4];rw [Xi hc2]
       have hrow' : Row ww.heap.size w' v (ofN (Je L c H[j]).2.2):=by
        unfold Row;rw [V1,hx];have e1:(H[j].2.2.take c++Z8 L H[j].2.1 H[j].2.2[c]++H[j].2.2.drop (c+1)).length=H[j].2.2.length-1+(Z8 L H[j].2.1 H[j].2.2[c]).length:=by simp;omega
        rw [e1]
        have e3:iv (ofN (H[j].2.2.take c++Z8 L H[j].2.1 H[j].2.2[c]++H[j].2.2.drop (c+1)))=(iv (ofN H[j].2.2)).take c++iv (ofN (Z8 L H[j].2.1 H[j].2.2[c]))++(iv (ofN H[j].2.2)).drop (c+1):=by
         rw [Zl0,Zl8];simp [ofN,iv]
        rw [e3];exact hrow
       obtain ⟨zo,zc,rfl,a1,_⟩:=hrow'.arg (by rw [V1,hx];simp;omega);exact ⟨zo,zc,by rw [V1],a1,hk.trans' hk'⟩
      have FIN:Hid (∀ w2 zo zc g cap w11,Za WB w2->Js w2 zo (ofN (Je L c H[j]).2.2) zc->w11.ownsRow we.heap.size 246 3 (.slice (some ⟨g,0,none⟩) (j+1) cap) (j+1) (us ++ [.int .i64 H[j].1,.slice xo H[j].2.1.length xc,.slice zo (Je L c H[j]).2.2.length zc])->Zc (λ q=>(Value.slice lo j lc).ownBlock=some q) w2 w11->(w11.cell? ⟨kb,2,none⟩=some (.slice lo j lc)∧w11.frozen? ⟨kb,2,none⟩=false)∧Hid (∃ us', Hid ((w11.setCell ⟨kb,2,none⟩ (.slice (some ⟨g,0,none⟩) (j+1) cap)).heap[kb]? = some (.cells #[.pointer (some ⟨bs,0,none⟩),.slice vo KPL.length vc,.slice (some ⟨g,0,none⟩) (j+1) cap] 181 (0,0)))∧Hid ((w11.setCell ⟨kb,2,none⟩ (.slice (some ⟨g,0,none⟩) (j+1) cap)).ownsRow we.heap.size 246 3 (.slice (some ⟨g,0,none⟩) (j+1) cap) (j+1) us')∧Hid (Yx (w11.setCell ⟨kb,2,none⟩ (.slice (some ⟨g,0,none⟩) (j+1) cap)) us' ((H.take (j+1)).map (Je L c)))∧Za W1 (w11.setCell ⟨kb,2,none⟩ (.slice (some ⟨g,0,none⟩) (j+1) cap))∧Zc (λ q=>q=kb) we (w11.setCell ⟨kb,2,none⟩ (.slice (some ⟨g,0,none⟩) (j+1) cap)))):=by
       intro w2 zo zc g cap w11 k2 a2 r11 k11;have kr2:Za wr w2:=kB.trans' k2;have hr2:=kr2.row hr.out (λ _ _ f=>f);have n2:=kbT w2 kr2
       have nk:¬ (Value.slice lo j lc).ownBlock=some kb:=λ e=>by
        obtain ⟨cu,h5⟩:=Yb hr2 e;rw [n2] at h5;cases h5
       have n11:=k11.at n2 nk;have ks:Zc (λ q=>q=kb) w11 (w11.setCell ⟨kb,2,none⟩ (.slice (some ⟨g,0,none⟩) (j+1) cap)):=Zc.setCell (p:=⟨kb,2,none⟩) (Zc.refl (λ q=>q=kb) w11) (λ _=>rfl) _;refine ⟨⟨Zb n11 2,Zg n11 2⟩,us ++ [.int .i64 H[j].1,.slice xo H[j].2.1.length xc,.slice zo (Je L c H[j]).2.2.length zc],Zt n11 2 _,?_,?_,?_,?_⟩
       ·exact ks.row r11 (λ q e f=>by
         obtain ⟨cu,h5⟩:=Yb r11 e;subst f
         rw [n11] at h5;cases h5)
       ·show Yx _ _ _
        rw [List.take_add_one,List.getElem?_eq_getElem hlt,List.map_append];have:=(hus.out.same kr2).snoc (x:=Je L c H[j]) (A1.same kr2) a2;exact (this.kept k11 (Zmm hr2)).kept ks (λ q e cur h5=>by subst e;rw [n11] at h5;cases h5)
       ·refine Zc.trans (Zc.trans (hw.trans' kr2) k11 (λ i hi e=>?_)) ks (λ i hi e=>by omega)
        have:=(hr2.lt i e).1;have:=K8.size;omega
       ·refine Zc.trans (Zc.trans (hwe.trans kr2.mono' (λ _ _ e=>e)) k11 (λ i hi e=>?_)) ks (λ _ _ e=>e)
        have:=(hr2.lt i e).1;omega
      have FS:Hid (∀ w10 w11 v,Za WB w10->Zc (λ q=>(Value.slice lo j lc).ownBlock=some q) w10 w11->(w11.cell? ⟨wr.heap.size,0,none⟩=some (.int .i64 H[j].1)∧w11.cell? ⟨wr.heap.size,1,none⟩=some (.slice xo H[j].2.1.length xc)∧w11.cell? ⟨wr.heap.size,2,none⟩=some (.slice (some ⟨pb2,poff2,none⟩) H[j].2.2.length yc))∧(w11.setCell ⟨kb,2,none⟩ v).cell? ⟨wr.heap.size,0,none⟩=some (.int .i64 H[j].1)∧(w11.setCell ⟨kb,2,none⟩ v).cell? ⟨wr.heap.size,1,none⟩=some (.slice xo H[j].2.1.length xc)∧(w11.setCell ⟨kb,2,none⟩ v).cell? ⟨wr.heap.size,2,none⟩=some (.slice (some ⟨pb2,poff2,none⟩) H[j].2.2.length yc)):=by
       intro w10 w11 v k10 k11;have hbx:WB.heap[wr.heap.size]? = some (.cells #[.int .i64 H[j].1,.slice xo H[j].2.1.length xc,.slice (some ⟨pb2,poff2,none⟩) H[j].2.2.length yc] 246 (0,0)):=by rw [hWB];exact heap_alloc_new _ _
       have b11:=k11.at (k10.at0 hbx) (λ e=>by have:=(hr.out.lt _ e).2;omega);have ks:Zc (λ q=>q=kb) w11 (w11.setCell ⟨kb,2,none⟩ v):=Zc.setCell (p:=⟨kb,2,none⟩) (Zc.refl (λ q=>q=kb) w11) (λ _=>rfl) _;have bs:=ks.at b11 (λ e=>by have:=hwe.size;omega);exact ⟨⟨Zb b11 0,Zb b11 1,Zb b11 2⟩,Zb bs 0,Zb bs 1,Zb bs 2⟩
      have HRW:Hid (∀ ww,Za WB ww->ww.ownsRow we.heap.size 246 3 (.slice lo j lc) j us):=λ ww hk=>(kB.trans' hk).row hr.out (λ _ _ f=>f);have hzw:Hid (we.heap.size<=WB.heap.size):=Nat.le_trans hwe.size kB.size;have CA9:=CAR.out;obtain ⟨⟨v0,v1⟩,v2,v3,v4,v5⟩:=CELLS.out WB (Zc.refl _ _);have u1:WB.drew.cell? ⟨w.heap.size,0,none⟩=some (.pointer (some ⟨bs,0,none⟩)):=v1;have u3:WB.drew.cell? ⟨wr.heap.size,1,none⟩=some (.slice xo H[j].2.1.length xc):=v3;have u4:WB.drew.cell? ⟨wr.heap.size,2,none⟩=some (.slice (some ⟨pb2,poff2,none⟩) H[j].2.2.length yc):=v4;have u5:WB.drew.cell? ⟨pb2,poff2+c,none⟩=some (.int .i64 ((H[j].2.2[c]:Nat):Int)):=v5;clear CAR hN hr hus hwe hw A1 A2 ok1 ok2 ok3 ok4 hT hpE kbT hpc2 e2 b0 b1 HI kB;generalize (Je L c H[j]).2.2.length=M at *;generalize (Z8 L H[j].2.1 H[j].2.2[c]).length=N at *
      go_upto_region 12 with fail
      rw [<- hWB];clear hWB r0 r1 r2
      go_cut [16] from 60 to 72 (λ s16 wc=>∃ qo qc,s16=.slice qo N qc∧Hid (Js wc qo (ofN (Z8 L H[j].2.1 H[j].2.2[c])) qc)∧Za WB wc)
      case first=>
       have CC0:=And.intro v1 (And.intro v3 (And.intro v4 v5))
       have KEEP:Hid (∀ ww,Za WB ww->ww.cell? ⟨w.heap.size,0,none⟩=some (.pointer (some ⟨bs,0,none⟩))∧ww.cell? ⟨wr.heap.size,1,none⟩=some (.slice xo H[j].2.1.length xc)∧ww.cell? ⟨wr.heap.size,2,none⟩=some (.slice (some ⟨pb2,poff2,none⟩) H[j].2.2.length yc)∧ww.cell? ⟨pb2,poff2+c,none⟩=some (.int .i64 ((H[j].2.2[c]:Nat):Int))):=λ ww hk=>by
        obtain ⟨⟨_,q1⟩,_,q3,q4,q5⟩:=CELLS.out ww hk;exact ⟨q1,q3,q4,q5⟩
       have CAD:=CA9 1;clear CA9 FIN HRW CR v0 v2 CELLS
       go_region_held3 (λ w' => w'.cell? ⟨w.heap.size,0,none⟩=some (.pointer (some ⟨bs,0,none⟩))∧w'.cell? ⟨wr.heap.size,1,none⟩=some (.slice xo H[j].2.1.length xc)∧w'.cell? ⟨wr.heap.size,2,none⟩=some (.slice (some ⟨pb2,poff2,none⟩) H[j].2.2.length yc)∧w'.cell? ⟨pb2,poff2+c,none⟩=some (.int .i64 ((H[j].2.2[c]:Nat):Int))) (first | exact CC0 | exact KEEP.out _ k9) (first
        | (go_at_call 182;refine CAD.mono ?_;rintro e w9 ⟨qo,qc,rfl,a9,k9⟩))
       all_goals
        go_wp2_with fail
        go_meet;exact ⟨_,_,rfl,a9,k9⟩
      case rest=>
      obtain ⟨qo,qc,rfl,a9,k9⟩:=hcut;obtain ⟨w9,rfl⟩:∃ w9,w9=wc:=⟨_,rfl⟩;clear CA9;have CR9:=λ ww (hk:Za w9 ww)=>CR.out ww qo qc (k9.trans' hk) (a9.out.same hk);have CRH:Hid (∀ ww,Za w9 ww->Calls prog 183 #[.slice (some ⟨pb2,poff2,none⟩) H[j].2.2.length yc,.int .i64 (c:Int),.slice qo N qc] ww λ e w' => ∃ zo zc,e=.returned (.slice zo M zc)∧Hid (Js w' zo (ofN (Je L c H[j]).2.2) zc)∧Za WB w'):=CR9;obtain ⟨⟨x0,x1⟩,x2,x3,x4,x5⟩:=CELLS.out w9 k9;have hz9:Hid (∀ ww,Za WB ww->we.heap.size<=ww.heap.size):=λ ww hk=>Nat.le_trans hzw.out hk.size;have WD:Za w9 w9.drew:=(Zc.refl _ _).drew;clear CR9 v0 v1 v2 v3 v4 v5 u1 u3 u4 u5 CR a9 x1 x5
      go_wp2_with fail
      have y0:w9.drew.cell? ⟨kb,2,none⟩=some (.slice lo j lc):=x0;have CC9:=And.intro x2 (And.intro x3 x4)
      have KE:Hid (∀ ww,Za WB ww->ww.cell? ⟨wr.heap.size,0,none⟩=some (.int .i64 H[j].1)∧ww.cell? ⟨wr.heap.size,1,none⟩=some (.slice xo H[j].2.1.length xc)∧ww.cell? ⟨wr.heap.size,2,none⟩=some (.slice (some ⟨pb2,poff2,none⟩) H[j].2.2.length yc)):=λ ww hk=>by
       obtain ⟨_,q2,q3,q4,_⟩:=CELLS.out ww hk;exact ⟨q2,q3,q4⟩
      refine wp_region_held_drew (S:=(λ w' => w'.cell? ⟨wr.heap.size,0,none⟩=some (.int .i64 H[j].1)∧w'.cell? ⟨wr.heap.size,1,none⟩=some (.slice xo H[j].2.1.length xc)∧w'.cell? ⟨wr.heap.size,2,none⟩=some (.slice (some ⟨pb2,poff2,none⟩) H[j].2.2.length yc))) (by kernel_rfl) CC9 (λ hHeld=>?_);refine wpAnyH_take (i:=0) (v:=.pointer (some ⟨kb,2,none⟩)) rfl (by kernel_rfl) (by kernel_rfl) (by kernel_rfl) (λ _ _ _ h=>h) (.inl ⟨rfl,λ w' hS=>by simp [go_sem]⟩) hHeld ?_;refine wpAnyH_take (i:=2) (v:=.pointer (some ⟨wr.heap.size,0,none⟩)) rfl (by kernel_rfl) (by kernel_rfl) (by kernel_rfl) (λ _ _ _ h=>h) (.inl ⟨rfl,λ w' hS=>by simp [go_sem]⟩) hHeld ?_;refine wpAnyH_take (i:=3) (v:=.int .i64 H[j].1) rfl (by kernel_rfl) (by kernel_rfl) (by kernel_rfl) (λ _ _ _ h=>h) (.inl ⟨rfl,λ w' hS=>by simp [go_sem,hS.1]⟩) hHeld ?_;refine wpAnyH_take (i:=4) (v:=.pointer (some ⟨wr.heap.size,1,none⟩)) rfl (by kernel_rfl) (by kernel_rfl) (by kernel_rfl) (λ _ _ _ h=>h) (.inl ⟨rfl,λ w' hS=>by simp [go_sem]⟩) hHeld ?_;refine wpAnyH_take (i:=5) (v:=.slice xo H[j].2.1.length xc) rfl (by kernel_rfl) (by kernel_rfl) (by kernel_rfl) (λ _ _ _ h=>h) (.inl ⟨rfl,λ w' hS=>by simp [go_sem,hS.2.1]⟩) hHeld ?_;refine wpAnyH_take (i:=6) (v:=.pointer (some ⟨wr.heap.size,2,none⟩)) rfl (by kernel_rfl) (by kernel_rfl) (by kernel_rfl) (λ _ _ _ h=>h) (.inl ⟨rfl,λ w' hS=>by simp [go_sem]⟩) hHeld ?_;refine wpAnyH_take (i:=7) (v:=.slice (some ⟨pb2,poff2,none⟩) H[j].2.2.length yc) rfl (by kernel_rfl) (by kernel_rfl) (by kernel_rfl) (λ _ _ _ h=>h) (.inl ⟨rfl,λ w' hS=>by simp [go_sem,hS.2.2]⟩) hHeld ?_;refine wpAnyH_take (i:=8) (v:=.int .i64 (c:Int)) rfl (by kernel_rfl) (by kernel_rfl) (by kernel_rfl) (λ _ _ _ h=>h) (.inl ⟨rfl,λ w' hS=>by simp [go_sem]⟩) hHeld ?_;refine wpAnyH_take (i:=9) (v:=.slice qo N qc) rfl (by kernel_rfl) (by kernel_rfl) (by kernel_rfl) (λ _ _ _ h=>h) (.inl ⟨rfl,λ w' hS=>by simp [go_sem]⟩) hHeld ?_
      refine wpAnyH_ready (rs:=[1,10]) (by kernel_rfl) (by simp) ?_;refine AllReadyH.cons rfl (λ K hK=>?_) (AllReadyH.cons rfl (λ K hK=>?_) AllReadyH.nil)
      ·go_simp
       refine hK.out _ _ hHeld (λ hHeld=>?_);clear hK K;refine wpAnyH_ready (rs:=[10]) (by kernel_rfl) (by simp) ?_;refine AllReadyH.cons rfl (λ K hK=>?_) AllReadyH.nil;refine Yn rfl (CRH.out _ WD) (by simp [go_sem]) ?_;rintro e w10 ⟨zo,zc,rfl,a10,k10⟩;refine ⟨_,rfl,?_⟩;obtain ⟨⟨c0,_⟩,c2,c3,c4,_⟩:=CELLS.out _ k10;obtain ⟨⟨d0,_⟩,_⟩:=CELLS.out _ (k10.alloc (.cells #[.int .i64 H[j].1,.slice xo H[j].2.1.length xc,.slice zo M zc] 246));have hz10:=hz9.out _ k10;refine hK.out _ _ (KE.out _ k10) (λ hHeld=>?_);clear hK K;refine wpAnyH_take (i:=11) (v:=.agg #[.int .i64 H[j].1,.slice xo H[j].2.1.length xc,.slice zo M zc]) rfl (by kernel_rfl) (by kernel_rfl) (by kernel_rfl) (λ _ _ _ h=>h) (.inl ⟨rfl,λ w' hS=>by simp [go_sem]⟩) hHeld ?_;refine wpAnyH_ready (rs:=[12]) (by kernel_rfl) (by simp) ?_;refine AllReadyH.cons rfl (λ K hK=>?_) AllReadyH.nil
       go_simp
       refine hK.out _ _ (KE.out _ (Zc.alloc k10 _)) (λ hHeld=>?_);clear hK K;refine wpAnyH_ready (rs:=[13]) (by kernel_rfl) (by simp) ?_;refine AllReadyH.cons rfl (λ K hK=>?_) AllReadyH.nil;refine Zlk (w0:=w10) (by rfl) _ _ (by rfl) we.heap.size j us (.slice lo j lc) (by rfl) ((Zc.refl _ w10).alloc _) (HRW.out _ k10) (.int .i64 H[j].1) (.slice xo H[j].2.1.length xc) (.slice zo M zc) w10.heap.size (by rfl) (heap_alloc_new w10 _) (by rfl) (by rfl) (by rfl) hz10 (by omega) ?_;intro g cap w11 r11 k11;obtain ⟨⟨y1,y2⟩,FF⟩:=FIN.out w10 zo zc g cap w11 k10 a10.out r11 k11;obtain ⟨e11,f11⟩:=FS.out w10 w11 (.slice (some ⟨g,0,none⟩) (j+1) cap) k10 k11;refine hK.out _ _ e11 (λ hHeld=>?_);clear hK K;refine wpAnyH_take (i:=14) (v:=.pointer (some ⟨kb,2,none⟩)) rfl (by kernel_rfl) (by kernel_rfl) (by kernel_rfl) (λ _ _ _ h=>h) (.inl ⟨rfl,λ w' hS=>by simp [go_sem]⟩) hHeld ?_;refine wpAnyH_ready (rs:=[15]) (by kernel_rfl) (by simp) ?_;refine AllReadyH.cons rfl (λ K hK=>?_) AllReadyH.nil
       go_simp
       refine hK.out _ _ f11 (λ hHeld=>?_);clear hK K;refine wpAnyH_done (by kernel_rfl) ?_ _
       go_wp2_with fail
       obtain ⟨us', z1,z2,z3,z4,z5⟩:=FF.out;exact ⟨⟨j+1,_,us', by omega,by go_num,z1,z2,z3,z4,z5⟩,by simp [intOf];omega⟩
      ·refine Yn rfl (CRH.out _ WD) (by simp [go_sem]) ?_
       rintro e w10 ⟨zo,zc,rfl,a10,k10⟩;refine ⟨_,rfl,?_⟩;obtain ⟨⟨c0,_⟩,c2,c3,c4,_⟩:=CELLS.out _ k10;obtain ⟨⟨d0,_⟩,_⟩:=CELLS.out _ (k10.alloc (.cells #[.int .i64 H[j].1,.slice xo H[j].2.1.length xc,.slice zo M zc] 246));have hz10:=hz9.out _ k10;refine hK.out _ _ (KE.out _ k10) (λ hHeld=>?_);clear hK K;refine wpAnyH_take (i:=11) (v:=.agg #[.int .i64 H[j].1,.slice xo H[j].2.1.length xc,.slice zo M zc]) rfl (by kernel_rfl) (by kernel_rfl) (by kernel_rfl) (λ _ _ _ h=>h) (.inl ⟨rfl,λ w' hS=>by simp [go_sem]⟩) hHeld ?_;refine wpAnyH_ready (rs:=[1,12]) (by kernel_rfl) (by simp) ?_;refine AllReadyH.cons rfl (λ K hK=>?_) (AllReadyH.cons rfl (λ K hK=>?_) AllReadyH.nil)
       ·go_simp
        refine hK.out _ _ hHeld (λ hHeld=>?_);clear hK K;refine wpAnyH_ready (rs:=[12]) (by kernel_rfl) (by simp) ?_;refine AllReadyH.cons rfl (λ K hK=>?_) AllReadyH.nil
        go_simp
        refine hK.out _ _ (KE.out _ (Zc.alloc k10 _)) (λ hHeld=>?_);clear hK K;refine wpAnyH_ready (rs:=[13]) (by kernel_rfl) (by simp) ?_;refine AllReadyH.cons rfl (λ K hK=>?_) AllReadyH.nil;refine Zlk (w0:=w10) (by rfl) _ _ (by rfl) we.heap.size j us (.slice lo j lc) (by rfl) ((Zc.refl _ w10).alloc _) (HRW.out _ k10) (.int .i64 H[j].1) (.slice xo H[j].2.1.length xc) (.slice zo M zc) w10.heap.size (by rfl) (heap_alloc_new w10 _) (by rfl) (by rfl) (by rfl) hz10 (by omega) ?_;intro g cap w11 r11 k11;obtain ⟨⟨y1,y2⟩,FF⟩:=FIN.out w10 zo zc g cap w11 k10 a10.out r11 k11;obtain ⟨e11,f11⟩:=FS.out w10 w11 (.slice (some ⟨g,0,none⟩) (j+1) cap) k10 k11;refine hK.out _ _ e11 (λ hHeld=>?_);clear hK K;refine wpAnyH_take (i:=14) (v:=.pointer (some ⟨kb,2,none⟩)) rfl (by kernel_rfl) (by kernel_rfl) (by kernel_rfl) (λ _ _ _ h=>h) (.inl ⟨rfl,λ w' hS=>by simp [go_sem]⟩) hHeld ?_;refine wpAnyH_ready (rs:=[15]) (by kernel_rfl) (by simp) ?_;refine AllReadyH.cons rfl (λ K hK=>?_) AllReadyH.nil
        go_simp
        refine hK.out _ _ f11 (λ hHeld=>?_);clear hK K;refine wpAnyH_done (by kernel_rfl) ?_ _
        go_wp2_with fail
        obtain ⟨us', z1,z2,z3,z4,z5⟩:=FF.out;exact ⟨⟨j+1,_,us', by omega,by go_num,z1,z2,z3,z4,z5⟩,by simp [intOf];omega⟩
       ·go_simp
        refine hK.out _ _ (KE.out _ (Zc.alloc k10 _)) (λ hHeld=>?_);clear hK K;refine wpAnyH_ready (rs:=[1]) (by kernel_rfl) (by simp) ?_;refine AllReadyH.cons rfl (λ K hK=>?_) AllReadyH.nil
        go_simp
        refine hK.out _ _ hHeld (λ hHeld=>?_);clear hK K;refine wpAnyH_ready (rs:=[13]) (by kernel_rfl) (by simp) ?_;refine AllReadyH.cons rfl (λ K hK=>?_) AllReadyH.nil;refine Zlk (w0:=w10) (by rfl) _ _ (by rfl) we.heap.size j us (.slice lo j lc) (by rfl) ((Zc.refl _ w10).alloc _) (HRW.out _ k10) (.int .i64 H[j].1) (.slice xo H[j].2.1.length xc) (.slice zo M zc) w10.heap.size (by rfl) (heap_alloc_new w10 _) (by rfl) (by rfl) (by rfl) hz10 (by omega) ?_;intro g cap w11 r11 k11;obtain ⟨⟨y1,y2⟩,FF⟩:=FIN.out w10 zo zc g cap w11 k10 a10.out r11 k11;obtain ⟨e11,f11⟩:=FS.out w10 w11 (.slice (some ⟨g,0,none⟩) (j+1) cap) k10 k11;refine hK.out _ _ e11 (λ hHeld=>?_);clear hK K;refine wpAnyH_take (i:=14) (v:=.pointer (some ⟨kb,2,none⟩)) rfl (by kernel_rfl) (by kernel_rfl) (by kernel_rfl) (λ _ _ _ h=>h) (.inl ⟨rfl,λ w' hS=>by simp [go_sem]⟩) hHeld ?_;refine wpAnyH_ready (rs:=[15]) (by kernel_rfl) (by simp) ?_;refine AllReadyH.cons rfl (λ K hK=>?_) AllReadyH.nil
        go_simp
        refine hK.out _ _ f11 (λ hHeld=>?_);clear hK K;refine wpAnyH_done (by kernel_rfl) ?_ _
        go_wp2_with fail
        obtain ⟨us', z1,z2,z3,z4,z5⟩:=FF.out;exact ⟨⟨j+1,_,us', by omega,by go_num,z1,z2,z3,z4,z5⟩,by simp [intOf];omega⟩
     ·obtain rfl:j=H.length:=by omega
      have hN' := hN.out;have rs:=RS.out wr hw;have n0:=Zb hN' 0;have n1:=Zb hN' 1;have n2:=Zb hN' 2;have q0:=Zb rs 0;have q1:=Zb rs 1;have q2:=Zb rs 2;have f0:=Zg rs 0;have f1:=Zg rs 1;have f2:=Zg rs 2;simp only [List.getElem?_toArray,List.getElem?_cons_zero,List.getElem?_cons_succ] at n0 n1 n2 q0 q1 q2
      have FIN:Hid (Zxa w L bs P c s H (.returned (.agg #[.pointer (some ⟨bs,0,none⟩),.slice vo KPL.length vc,.slice lo H.length lc])) (((wr.setCell ⟨w.heap.size+1,0,none⟩ (.pointer (some ⟨bs,0,none⟩))).setCell ⟨w.heap.size+1,1,none⟩ (.slice vo KPL.length vc)).setCell ⟨w.heap.size+1,2,none⟩ (.slice lo H.length lc))):=by
       have kk:Zc (λ q=>q=w.heap.size+1) wr (((wr.setCell ⟨w.heap.size+1,0,none⟩ (.pointer (some ⟨bs,0,none⟩))).setCell ⟨w.heap.size+1,1,none⟩ (.slice vo KPL.length vc)).setCell ⟨w.heap.size+1,2,none⟩ (.slice lo H.length lc)):=by
        have k1:=Zc.setCell (p:=⟨w.heap.size+1,0,none⟩) (Zc.refl (λ q=>q=w.heap.size+1) wr) (λ _=>rfl) (.pointer (some ⟨bs,0,none⟩));have k2:=Zc.setCell (p:=⟨w.heap.size+1,1,none⟩) k1 (λ _=>rfl) (.slice vo KPL.length vc);exact Zc.setCell (p:=⟨w.heap.size+1,2,none⟩) k2 (λ _=>rfl) (.slice lo H.length lc)
       have hus' := hus.out;rw [List.take_length] at hus';obtain ⟨ro,rc,e1,r1,r2,_⟩:=Zg6 hr.out hus';rw [List.length_map] at e1;have hpsr:=HPS.out.keptN hwe (λ q e=>by subst e;exact ⟨_,HN0.out⟩);have nb:∀ q,q=w.heap.size+1->NdB wr q:=λ q e=>by subst e;exact ⟨_,rs⟩
       refine ⟨vo,vc,ro,rc,by rw [HKP.out,<- e1],?_,HVN.out.1,?_,r1.keptN kk nb,r2,Zc.trans (KW.trans' hw) kk (λ i hi e=>by omega)⟩
       ·rw [HKP.out];exact hpsr.keptN kk nb
       ·rw [HKP.out];exact HVN.out.2
      have s3:=Zt (Zt (Zt rs 0 (.pointer (some ⟨bs,0,none⟩))) 1 (.slice vo KPL.length vc)) 2 (.slice lo H.length lc);have GG:Hid ((((wr.setCell ⟨w.heap.size+1,0,none⟩ (.pointer (some ⟨bs,0,none⟩))).setCell ⟨w.heap.size+1,1,none⟩ (.slice vo KPL.length vc)).setCell ⟨w.heap.size+1,2,none⟩ (.slice lo H.length lc)).cell? ⟨w.heap.size+1,0,none⟩=some (.pointer (some ⟨bs,0,none⟩))∧(((wr.setCell ⟨w.heap.size+1,0,none⟩ (.pointer (some ⟨bs,0,none⟩))).setCell ⟨w.heap.size+1,1,none⟩ (.slice vo KPL.length vc)).setCell ⟨w.heap.size+1,2,none⟩ (.slice lo H.length lc)).cell? ⟨w.heap.size+1,1,none⟩=some (.slice vo KPL.length vc)∧(((wr.setCell ⟨w.heap.size+1,0,none⟩ (.pointer (some ⟨bs,0,none⟩))).setCell ⟨w.heap.size+1,1,none⟩ (.slice vo KPL.length vc)).setCell ⟨w.heap.size+1,2,none⟩ (.slice lo H.length lc)).cell? ⟨w.heap.size+1,2,none⟩=some (.slice lo H.length lc)):=⟨Zb s3 0,Zb s3 1,Zb s3 2⟩;clear hN hr hus hN' rs hwe s3;go_wp2;obtain ⟨g0,g1,g2⟩:=GG.out;exact bodyPost_ret (v:=.agg #[.pointer (some ⟨bs,0,none⟩),.slice vo KPL.length vc,.slice lo H.length lc]) (by simp [results,results131,go_sem,g0,g1,g2]) rfl FIN.out
end
section
open Go.RowKit
def CsB (B:Nat->Prop) (w:World):(n:Nat)->Value->Tr n->Prop
 | 0,_,_=>False
 | n+1,v,(k,r,p,l)=>∃ po pc ko kc,v=.agg #[.int .i64 k,.int .i64 r,.slice po p.length pc,.slice ko l.length kc]∧Arg w po p pc∧(p=[]∨∀ a,po=some a->B a.block)∧(ko=none->kc=0)∧l.length<=kc ∧
   (l=[]∨∃ b off,ko=some ⟨b,off,none⟩∧B b∧b<w.heap.size∧∀ i (h:i<l.length),∃ c0 c1 c2 c3,w.cell? ⟨b,off+i * 5,none⟩=some (.int .i64 l[i].1)∧w.cell? ⟨b,off+i * 5+1,none⟩=some c0∧w.cell? ⟨b,off+i * 5+2,none⟩=some c1∧w.cell? ⟨b,off+i * 5+3,none⟩=some c2∧w.cell? ⟨b,off+i * 5+4,none⟩=some c3∧CsB B w n (.agg #[c0,c1,c2,c3]) l[i].2)
theorem Zh.keptE (h:Zh w ao xs) (hk:Zc S w w') (hs:xs=[]∨∀ a,ao=some a->¬ S a.block):Zh w' ao xs:=by
 rcases hs with rfl | hs
 ·exact .inl rfl
 ·exact h.kept hk hs
theorem CsB.kept (hk:Zc S w w') (hS:∀ b,B b->¬ S b):∀ {n:Nat} {v:Value} {t:Tr n},CsB B w n v t->CsB B w' n v t
 | 0,_,_,h=>h
 | n+1,v,(k,r,p,l),h=>by
  obtain ⟨po,pc,ko,kc,h1,h2,h3,h4,h5,h6⟩:=h;refine ⟨po,pc,ko,kc,h1,⟨h2.at'.keptE hk (h3.imp id (λ q a e=>hS _ (q a e))),h2.cap', h2.nil,h2.size⟩,h3,h4,h5,h6.imp id ?_⟩;rintro ⟨b,off,e,hb,hl,hc⟩;refine ⟨b,off,e,hb,Nat.lt_of_lt_of_le hl hk.size,λ i hi=>?_⟩;have nb:=hS b hb;obtain ⟨c0,c1,c2,c3,q0,q1,q2,q3,q4,q5⟩:=hc i hi;exact ⟨c0,c1,c2,c3,(hk.cell (p:=⟨b,off+i * 5,none⟩) hl nb).trans q0,(hk.cell (p:=⟨b,off+i * 5+1,none⟩) hl nb).trans q1,(hk.cell (p:=⟨b,off+i * 5+2,none⟩) hl nb).trans q2,(hk.cell (p:=⟨b,off+i * 5+3,none⟩) hl nb).trans q3,(hk.cell (p:=⟨b,off+i * 5+4,none⟩) hl nb).trans q4,CsB.kept hk hS q5⟩
theorem CsB.same {v:Value} {t:Tr n} (h:CsB B w n v t) (hk:Za w w'):CsB B w' n v t:=CsB.kept hk (λ _ _ f=>f) h
theorem CsB.mono (hB:∀ b,b<w.heap.size->B b->B' b):∀ {n:Nat} {v:Value} {t:Tr n},CsB B w n v t->CsB B' w n v t
 | 0,_,_,h=>h
 | n+1,v,(k,r,p,l),h=>by
  obtain ⟨po,pc,ko,kc,h1,h2,h3,h4,h5,h6⟩:=h;refine ⟨po,pc,ko,kc,h1,h2,?_,h4,h5,h6.imp id ?_⟩
  ·rcases h2.at' with q | ⟨b,off,e,hb,_⟩
   ·exact .inl q
   ·refine h3.imp id (λ q a ea=>?_)
    rw [e] at ea;cases ea;exact hB _ hb (q _ e)
  ·rintro ⟨b,off,e,hb,hl,hc⟩
   refine ⟨b,off,e,hB b hl hb,hl,λ i hi=>?_⟩;obtain ⟨c0,c1,c2,c3,q0,q1,q2,q3,q4,q5⟩:=hc i hi;exact ⟨c0,c1,c2,c3,q0,q1,q2,q3,q4,CsB.mono hB q5⟩
theorem CsB.shape:∀ {n:Nat} {v:Value} {t:Tr n},CsB B w n v t->∃ k r po pl pc ko kl kc,v=.agg #[.int .i64 k,.int .i64 r,.slice po pl pc,.slice ko kl kc]
 | 0,_,_,h=>h.elim
 | n+1,v,(k,r,p,l),h=>by
  obtain ⟨po,pc,ko,kc,h1,_⟩:=h;exact ⟨_,_,_,_,_,_,_,_,h1⟩
theorem Znm:(prog.info? 161).map (λ i=>(i.zero,i.size,i.bytes))=some (some (.agg #[.int .i64 0,.int .i64 0,.int .i64 0,.slice none 0 0,.slice none 0 0]),5,72):=by kernel_rfl
def Y2 (B:Nat->Prop) (w:World) (n:Nat) (us:List Value) (l:List (Int × Tr n)):Prop:=
 us.length=l.length * 5∧∀ i (h:i<l.length),∃ c0 c1 c2 c3,us[i * 5]? = some (.int .i64 l[i].1)∧us[i * 5+1]? = some c0∧us[i * 5+2]? = some c1∧us[i * 5+3]? = some c2∧us[i * 5+4]? = some c3∧CsB B w n (.agg #[c0,c1,c2,c3]) l[i].2
theorem Y2.nil (B:Nat->Prop) (w:World) (n:Nat):Y2 B w n [] []:=⟨rfl,λ i h=>absurd h (by simp)⟩
theorem Y2.kept {l:List (Int × Tr n)} (h:Y2 B w n us l) (hk:Zc S w w') (hS:∀ b,B b->¬ S b):Y2 B w' n us l:=
 ⟨h.1,λ i hi=>by
  obtain ⟨c0,c1,c2,c3,q0,q1,q2,q3,q4,q5⟩:=h.2 i hi
  exact ⟨c0,c1,c2,c3,q0,q1,q2,q3,q4,CsB.kept hk hS q5⟩⟩
theorem Y2.mono {l:List (Int × Tr n)} (h:Y2 B w n us l) (hB:∀ b,b<w.heap.size->B b->B' b):Y2 B' w n us l:=
 ⟨h.1,λ i hi=>by
  obtain ⟨c0,c1,c2,c3,q0,q1,q2,q3,q4,q5⟩:=h.2 i hi
  exact ⟨c0,c1,c2,c3,q0,q1,q2,q3,q4,CsB.mono hB q5⟩⟩
theorem Y2.snoc {l:List (Int × Tr n)} (h:Y2 B w n us l) {s:Int} {t:Tr n} {c0 c1 c2 c3:Value} (ht:CsB B w n (.agg #[c0,c1,c2,c3]) t):Y2 B w n (us ++ [.int .i64 s,c0,c1,c2,c3]) (l ++ [(s,t)]):=by
 refine ⟨by simp [h.1];omega,λ i hi=>?_⟩
 by_cases hl:i<l.length
 ·rw [List.getElem_append_left hl,List.getElem?_append_left (by rw [h.1];omega),List.getElem?_append_left (by rw [h.1];omega),List.getElem?_append_left (by rw [h.1];omega),List.getElem?_append_left (by rw [h.1];omega),List.getElem?_append_left (by rw [h.1];omega)]
  exact h.2 i hl
 ·obtain rfl:i=l.length:=by simp at hi;omega
  refine ⟨c0,c1,c2,c3,?_,?_,?_,?_,?_,by simpa using ht⟩ <;> (rw [List.getElem?_append_right (by rw [h.1];omega),h.1];simp [Nat.add_sub_cancel_left])
theorem Zj6 {l:List (Int × Tr n)} (hr:w.ownsRow base 161 5 lv l.length us) (hu:Y2 B w n us l) (hB:∀ b,lv.ownBlock=some b->B b) {p:List Int} (hp:Arg w po p pc) (hpB:∀ a,po=some a->B a.block) (k r:Int) :
  CsB B w (n+1) (.agg #[.int .i64 k,.int .i64 r,.slice po p.length pc,lv]) (k,r,p,l):=by
 rcases hr.2 with ⟨rfl,h0⟩ | ⟨g,cap,cur,rfl,_,hg,hle,_,_,ht⟩
 ·have e0:l=[]:=List.eq_nil_of_length_eq_zero h0
  subst e0;exact ⟨po,pc,none,0,rfl,hp,.inr hpB,λ _=>rfl,Nat.le_refl _,.inl rfl⟩
 ·refine ⟨po,pc,_,cap,rfl,hp,.inr hpB,(λ e=>by cases e),hle,.inr ⟨g,0,rfl,hB g rfl,Zi hg,λ i hi=>?_⟩⟩
  obtain ⟨c0,c1,c2,c3,q0,q1,q2,q3,q4,q5⟩:=hu.2 i hi;have a0:=hr.cells (g:=g) rfl _ _ q0;have a1:=hr.cells (g:=g) rfl _ _ q1;have a2:=hr.cells (g:=g) rfl _ _ q2;have a3:=hr.cells (g:=g) rfl _ _ q3;have a4:=hr.cells (g:=g) rfl _ _ q4;rw [Xb] at a0 a1 a2 a3 a4;exact ⟨c0,c1,c2,c3,a0,by rw [<- a1];congr 2,by rw [<- a2];congr 2,by rw [<- a3];congr 2,by rw [<- a4];congr 2,q5⟩
theorem Zdc {W:World} {o:Oper} {Q:Exit->Act->World->Prop} (hgd:o.guard=none) (s x:Operand)
  (ho:o.op=.call { callee:=.builtin .append,args:=#[s,x],argTypes:=#[61,61] })
  (base N:Nat) (vs:List Value) (v:Value) (hs:a.eval s=v) (hW:Za w0 W) (hr:w0.ownsRow base 161 5 v N vs) (A C D F G:Value) (q:Nat) (hx:a.eval x=.slice (some ⟨q,0,none⟩) 1 1) (hq:W.heap[q]? = some (.cells #[A,C,D,F,G] 161 (0,0))) (hA:A.oneCell' = true) (hC:C.oneCell' = true) (hD:D.oneCell' = true) (hF:F.oneCell' = true) (hG:G.oneCell' = true) (hb:base<=w0.heap.size) (hsz:N<=1000)
  (h:∀ g cap w', w'.ownsRow base 161 5 (.slice (some ⟨g,0,none⟩) (N+1) cap) (N+1) (vs ++ [A,C,D,F,G])->Zc (λ k=>v.ownBlock=some k) w0 w' -> (v.ownBlock=some g∨w0.heap.size<=g)->K (a.put o.dst (.slice (some ⟨g,0,none⟩) (N+1) cap)) w') :
  if Region.wanted o (yielded ops a.tmps)=true then Oper.wp prog o a W K Q else E:=by
 obtain ⟨i,hi,hz0,hz1,hz2⟩:=info_parts Znm;refine step_append_lies _ hgd s x 61 ho base 161 i _ 5 72 underlying61 hi hz0 hz1 hz2 rfl (by decide) v N vs hs (hW.row hr (λ _ _ f=>f)) ⟨q,0,none⟩ 1 1 [A,C,D,F,G] hx rfl (World.news_of_block (cs:=#[A,C,D,F,G]) (t:=161) (fr:=(0,0)) hq) (by intro u hu;simp at hu;rcases hu with rfl | rfl | rfl | rfl | rfl <;> assumption) (by omega) (by unfold maxLen;omega) (by omega) (Nat.le_trans hb hW.size) W.heap.size rfl ?_;intro g cap w' hown hgrow hat hlt;exact h g cap w' hown (Zc.grown (Zc.mono hW (λ _ _ f=>f.elim)) hgrow (λ _ e _=>e)) (hat.imp id (λ e=>by have:=hW.size;omega))
theorem Zpa {o:Oper} {Q:Exit->Act->World->Prop} {f:FuncId} {args:Array Value} {R:Ending->World->Prop} (hgd:o.guard=none)
  (c:Calls prog f args w R) (hrun:(execOp a.eval o).run prog w=.ok (.enter f args) w) (hR:∀ e w', R e w' -> ∃ ch,e=.panicked ch∧Q (.panic ch) a w') :
  if Region.wanted o (yielded ops a.tmps)=true then Oper.wp prog o a w K Q else E:=by
 have hw:Region.wanted o (yielded ops a.tmps)=true:=by simp [Region.wanted,hgd]
 rw [if_pos hw];unfold Oper.wp;rw [hrun,Oper.upon_enter];refine c.mono λ e w' h=>?_;obtain ⟨ch,rfl,h2⟩:=hR e w' h;exact h2
def FkAt (w:World) (e:Ending) (z:Int):Prop:=
 ∃ b,e=.panicked [{ v:=.iface 114 (.pointer (some ⟨b,0,none⟩)),recovered:=false }]∧w.heap[b]? = some (.cells #[.int .i64 82,.int .i64 z,.nilIface] 116 (0,0))
structure Zho (w:World) (L:List Sym) (n bs:Nat) (po:Option Addr) (pc:Nat) (P:List (List Int)) (ro:Option Addr) (R:List Rw):Prop where
 sig:Sg w.heap.size w bs L
 ps:Zbz w po P
 nul:po=none->pc=0
 cap:P.length<=pc
 rs:Ze8 w ro R
 ok:Ztq L n P R
theorem Zho.same (h:Zho w L n bs po pc P ro R) (hk:Za w w'):Zho w' L n bs po pc P ro R:=
 ⟨Zbs (h.sig.same hk) hk.size,h.ps.same hk,h.nul,h.cap,h.rs.same hk,h.ok⟩
theorem Ztq.rows (h:Ztq L n P R):RowsOk P.length R:=λ x hx=>⟨(h.ok x hx).2.1,(h.ok x hx).2.2.1⟩
def Zba {n:Nat} (w:World) (r:Except Int (Tr n)) (e:Ending) (w' : World):Prop:=
 match r with
 | .ok t=>∃ v,e=.returned v∧CsB (λ b=>w.heap.size<=b) w' n v t∧Za w w'
 | .error z=>FkAt w' e z∧Za w w'
def Znj (L:List Sym) (n:Nat):Prop:=∀ (w:World) (bs:Nat) (po:Option Addr) (pc:Nat) (P:List (List Int)) (ro:Option Addr) (rc:Nat) (R:List Rw),Zho w L n bs po pc P ro R->Calls prog 92 #[.agg #[.pointer (some ⟨bs,0,none⟩),.slice po P.length pc,.slice ro R.length rc]] w (Zba w (Y5 L n P R))
theorem Zho.toKid (h:Zho w L (n+1) bs po pc P ro R) {s:Nat} (hc:c<P.length) (hs:s<L.length) (hh:Ze8 w ho (Yj R c (s:Int))):Zj9 w L bs po pc P c s ho (Yj R c (s:Int)):=
 ⟨h.sig,h.ps,h.nul,h.cap,hc,hs,hh,Nat.le_trans (Zhr R c s) h.ok.le,h.ok.few,λ p hp=>by have:=h.ok.len p hp;omega,λ x hx=>by
  obtain ⟨h1,h2⟩:=Zc3 hx;obtain ⟨a,b,c,_⟩:=h.ok.ok x h1
  exact ⟨a,b,c,h2⟩⟩
end
section
open Go.RowKit
attribute [local go_sem ↓] Go.wp_at_zero Go.wp_at_succ
def Zix:(n:Nat)->Tr n->List Int
 | 0,_=>[]
 | n+1,(k,r,p,l)=>if k=1 then [r] else if k=2 then l.flatMap (λ x=>Zix n x.2) else []
def SmK:(n:Nat)->Tr n->Prop
 | 0,_=>True
 | n+1,(k,r,p,l)=>l.length<=1000000000∧∀ i (h:i<l.length),SmK n l[i].2
structure RAt (w:World) (lb base:Nat) (lv:Value) (out:List Int):Prop where
 blk:w.heap[lb]? = some (.cells #[lv] 51 (0,0))
 row:Row base w lv out
abbrev T3:=Nat × Nat × Nat
def add3 (a b:T3):T3:=(a.1+b.1,a.2.1+b.2.1,a.2.2+b.2.2)
def sum3 {α:Type} (f:α->T3):List α->T3
 | []=>(0,0,0)
 | x :: r=>add3 (f x) (sum3 f r)
def kind3 (k:Int):T3:=if k=1 then (1,0,0) else if k=2 then (0,1,0) else if k=3 then (0,0,1) else (0,0,0)
def szT:(n:Nat)->Tr n->T3
 | 0,_=>(0,0,0)
 | n+1,(k,r,p,l)=>add3 (kind3 k) (if k=2 then sum3 (λ x=>szT n x.2) l else (0,0,0))
structure SAt (w:World) (x y z:Nat) (a:T3):Prop where
 bx:w.heap[x]? = some (.cells #[.int .i64 (a.1:Int)] 3 (0,0))
 by' : w.heap[y]? = some (.cells #[.int .i64 (a.2.1:Int)] 3 (0,0))
 bz:w.heap[z]? = some (.cells #[.int .i64 (a.2.2:Int)] 3 (0,0))
 xy:x≠y
 xz:x≠z
 yz:y≠z
end
end Go.Proofs.YtmjgnfkbnofjoaaGreatDoor
