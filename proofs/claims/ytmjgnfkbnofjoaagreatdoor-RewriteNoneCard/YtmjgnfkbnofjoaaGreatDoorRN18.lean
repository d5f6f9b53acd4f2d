import Derived.WalkKit
import Derived.Test.YtmjgnfkbnofjoaaGreatDoorRN17
namespace Go.Proofs.YtmjgnfkbnofjoaaGreatDoor
open Go.Proofs.Tryz
set_option maxRecDepth 100000
set_option linter.unusedVariables false
set_option maxHeartbeats 32000000
variable {a:Act} {X XS:List (Nat × Nat)} {T:List Int} {R l:List Ru} {L:List Sym} {A B Bn D N V b base bs c c' cb eb g g' k lc n p r tc xb y:Nat} {P:Nat × Nat->Bool} {q:Nat->Bool} {o o':Obj} {lo ro sp tto:Option Addr} {mr:Option Nat} {lv v v':Value} {W W' Y w w' w0 w1 wc wx:World} {S:World->Prop}
section
open Go.RowKit Go.Shelf
attribute [local go_sem] Oper.semAt_some
def rxV (l:List (Nat × Nat)):List Value:=l.flatMap (λ x=>[.int .i64 (x.1:Int),.int .i64 (x.2:Int)])
theorem Zrr:∀ l:List (Nat × Nat),(rxV l).length=l.length * 2
 | []=>rfl
 | x :: r=>by
  have:=Zrr r;simp only [rxV,List.flatMap_cons,List.length_append,List.length_cons,List.length_nil] at this ⊢;omega
theorem Zr6:∀ (l:List (Nat × Nat)) (i:Nat) (h:i<l.length),(rxV l)[i * 2]? = some (.int .i64 (l[i].1:Int))∧(rxV l)[i * 2+1]? = some (.int .i64 (l[i].2:Int))
 | [],_,h=>absurd h (by simp)
 | x :: r,0,_=>⟨rfl,rfl⟩
 | x :: r,i+1,h=>by
  have:=Zr6 r i (by simpa using h);have e:rxV (x :: r)=[.int .i64 (x.1:Int),.int .i64 (x.2:Int)]++rxV r:=rfl;rw [e,show (i+1) * 2=i * 2+2 by omega,List.getElem?_append_right (by simp),List.getElem?_append_right (by simp)]
  simpa using this
def Kl (w:World) (lo:Option Addr) (l:List (Nat × Nat)):Prop:=l=[]∨∃ g,lo=some ⟨g,0,none⟩∧g<w.heap.size∧∀ i (h:i<l.length),w.cell? ⟨g,i * 2,none⟩=some (.int .i64 (l[i].1:Int))∧w.cell? ⟨g,i * 2+1,none⟩=some (.int .i64 (l[i].2:Int))
theorem Kl.same {l:List (Nat × Nat)} (h:Kl w lo l) (hk:Za w w'):Kl w' lo l:=by
 rcases h with h | ⟨g,h1,h2,h3⟩
 ·exact .inl h
 ·exact .inr ⟨g,h1,Nat.lt_of_lt_of_le h2 hk.size,λ i hi=>⟨(hk.cell (p:=⟨g,i * 2,none⟩) h2 (λ f=>f)).trans (h3 i hi).1,(hk.cell (p:=⟨g,i * 2+1,none⟩) h2 (λ f=>f)).trans (h3 i hi).2⟩⟩
theorem Zvv {l:List (Nat × Nat)} (hr:w.ownsRow base 85 2 v N (rxV l)):∃ lo lc,v=.slice lo l.length lc∧Kl w lo l:=by
 have hN:N=l.length:=by have:=hr.1;rw [Zrr] at this;omega
 subst hN
 rcases hr.2 with ⟨rfl,h0⟩ | ⟨g,cap,cur,rfl,_,hg,_,_,_,ht⟩
 ·exact ⟨none,0,by rw [h0],.inl (List.eq_nil_of_length_eq_zero h0)⟩
 ·refine ⟨_,cap,rfl,.inr ⟨g,rfl,Zi hg,λ i hi=>?_⟩⟩
  obtain ⟨h1,h2⟩:=Zr6 l i hi;have q1:=hr.cells (g:=g) rfl _ _ h1;have q2:=hr.cells (g:=g) rfl _ _ h2;rw [Xb] at q1 q2;exact ⟨by rw [<- q1];congr 2;omega,by rw [<- q2];congr 2;omega⟩
structure RxJ (X:List (Nat × Nat)) (w:World) (k:Nat) (W:World):Prop where
 same:Za w W
 row:∃ v,W.heap[w.heap.size]? = some (.cells #[v] 77 (0,0))∧W.ownsRow w.heap.size 85 2 v k (rxV (X.take k))
theorem RxJ.up (h:RxJ X w k W) (hk:Za W W'):RxJ X w k W' := by
 obtain ⟨h1,v,h3,h4⟩:=h;exact ⟨h1.trans' hk,v,hk.at0 h3,hk.row h4 (λ _ _ f=>f)⟩
theorem RxJ.put {l:Nat} (h:RxJ X w k Y) (hl:Y.heap[l]? = some o) (ho:o.isCells=false) (hw:w.heap.size<=l):RxJ X w k (Y.putObj l o'):=by
 obtain ⟨h1,v,h3,h4⟩:=h;have kk:Zc (λ k=>k=l) Y (Y.putObj l o'):=Xd;have no:∀ cur t fr,Y.heap[l]? ≠ some (.cells cur t fr):=λ cur t fr e=>by rw [hl] at e;cases e;cases ho
 refine ⟨Zc.trans h1 kk (λ i hi e=>by have e' : i=l:=e;omega),v,Yg hl ho h3 rfl,kk.row h4 (λ q e e2=>?_)⟩;obtain ⟨cur,hc⟩:=Zu h4 e;have e3:q=l:=e2;rw [e3] at hc;exact no _ _ _ hc
theorem RxJ.more (j1:Za w W) (j3:W.heap[w.heap.size]? = some (.cells #[v] 77 (0,0))) (j4:W.ownsRow w.heap.size 85 2 v k (rxV (X.take k))) (hk:k<X.length)
  (hr:w1.ownsRow w.heap.size 85 2 v' (k+1) (rxV (X.take k) ++ [.int .i64 (X[k].1:Int),.int .i64 (X[k].2:Int)])) (hkp:Zc (λ q=>v.ownBlock=some q) W w1) (hB:B<=w.heap.size) :
  w1.heap[w.heap.size]? = some (.cells #[v] 77 (0,0))∧RxJ X w (k+1) (w1.setCell ⟨w.heap.size,0,none⟩ v')∧Rnd D B W (w1.setCell ⟨w.heap.size,0,none⟩ v'):=by
 have ty:∀ q,v.ownBlock=some q->∃ cur,W.heap[q]? = some (.cells cur 85 (0,0)):=λ q e=>Zu j4 e;have n3:¬ v.ownBlock=some w.heap.size:=λ e=>by obtain ⟨cur,hc⟩:=ty _ e;rw [j3] at hc;cases hc
 have b3:=hkp.at j3 n3;have ks:=Yh w1 w.heap.size 0 v';have kk:Zc (λ q=>v.ownBlock=some q∨q=w.heap.size) W (w1.setCell ⟨w.heap.size,0,none⟩ v'):=Zc.trans (hkp.mono (λ _ _ e=>.inl e)) ks (λ _ _ e=>.inr e)
 have e1:rxV (X.take (k+1))=rxV (X.take k) ++ [.int .i64 (X[k].1:Int),.int .i64 (X[k].2:Int)]:=by
  rw [List.take_add_one,List.getElem?_eq_getElem hk];show rxV (X.take k ++ [X[k]])=_;unfold rxV;rw [List.flatMap_append];rfl
 have:=j1.size;refine ⟨b3,⟨Zc.trans j1 kk (λ i hi e=>?_),v', by rw [Zt b3];rfl,?_⟩,Rnd.of kk (λ q e=>?_) (λ q hq e=>?_) (by omega)⟩
 ·rcases e with e | e
  ·have:=Jq j4 e;omega
  ·omega
 ·rw [e1]
  refine ks.row hr (λ q e e2=>?_);have e3:q=w.heap.size:=e2;rw [e3] at e;obtain ⟨cur,hc⟩:=Zu hr e;rw [b3] at hc;cases hc
 ·rcases e with e | e
  ·obtain ⟨cur,hc⟩:=ty q e
   exact ⟨_,_,_,hc⟩
  ·rw [e];exact ⟨_,_,_,j3⟩
 ·rcases e with e | e
  ·have:=Jq j4 e;omega
  ·omega
theorem Zpg:(prog.info? 85).map (λ i=>(i.zero,i.size,i.bytes))=some (some (.agg #[.int .i64 0,.int .i64 0]),2,16):=by kernel_rfl
theorem Zo0 {rc:Nat} (h:Zcu wc b bs ro rc tto tc L R T) (hc:Za wc w) (hbx:wc.cell? ⟨Bn,0,none⟩=some (.pointer (some ⟨b,0,none⟩))) :
  Calls prog 106 #[.slice none 0 0,.func (.func 107) #[] #[.pointer (some ⟨Bn,0,none⟩)]] w λ e w' => ∃ lo lc,e=.returned (.slice lo (Vx L R T).length lc)∧Kl w' lo (Vx L R T)∧Za w w' := by
 have hFn:∀ k,Fence.wide.fn k:=λ _=>trivial;have hlen:(Vx L R T).length<=2000:=Nat.le_trans (Zc5 _ _) (Ze.1 h.ok).1;obtain ⟨W0,hW0⟩:∃ W0,W0=w.alloc (.cells #[.slice none 0 0] 77):=⟨_,rfl⟩;have K0:Za w W0:=by rw [hW0];exact Zal9
 have gl:W0.heap[w.heap.size]? = some (.cells #[.slice none 0 0] 77 (0,0)):=by rw [hW0];exact heap_alloc_new _ _
 have z0:W0.heap.size=w.heap.size+1:=by rw [hW0];simp
 have zc:=hc.size;have HH:=Zo8 (n:=8) h (hc.trans' K0) hbx (by omega);have START:RxJ (Vx L R T) w 0 W0:=⟨K0,.slice none 0 0,gl,by simpa [rxV] using World.ownsRow_nil _ _ _ _⟩;clear h hbx;generalize Vx L R T=X at *;refine (callsIn_wide (n:=9)).1 ?_;refine callsIn_of_wp_marks func106 rfl trivial ?_ rfl;simp only [ntmps106,List.size_toArray,List.length_cons,List.length_nil,Nat.reduceAdd,Nat.reduceSub,Array.replicate_succ,Array.replicate_zero,List.push_toArray,List.append_toArray,List.nil_append,List.cons_append]
 gi_upto_region 1 with fail
 rw [<- hW0];clear hW0
 gi_wp2_with fail
 refine Zaj rfl (by omega) (gf:=107) (lb:=#[.pointer (some ⟨Bn,0,none⟩)]) rfl trivial (enters_of func107 (by kernel_rfl) rfl) (B:=wc.heap.size) (by omega) HH (λ k vs W h=>by obtain ⟨_,rfl⟩:=h;rfl)
  (λ k W=>RxJ X w k W) (λ k X Y h hk=>h.up hk) (λ k X l o o' h hl ho hw=>h.put hl ho (by omega)) START (λ _=>False) (λ X Y h hk=>h.elim) (λ X l o o' h hl ho hw=>h.elim) ?round ?done ?stop
 case stop=>exact λ D W hD h=>h.elim
 case done=>
  rintro D W hD hj hK;obtain ⟨j1,v,j3,j4⟩:=hj.put (o' := .deferred none) hK rfl (by omega);rw [List.take_of_length_le (Nat.le_refl _)] at j4;obtain ⟨lo,lc,rfl,hrx⟩:=Zvv j4
  have c3:W.cell? ⟨w.heap.size,0,none⟩=some (.slice lo X.length lc):=by
   have:=(World.putObj_heap_other (w:=W) (r:=D) (o:=.deferred none) (k:=w.heap.size) (by omega)).symm.trans j3;exact Zb this 0
  have HF:Hid (Kl (W.putObj D (.deferred none)) lo X∧Za w (W.putObj D (.deferred none))):=⟨hrx,j1⟩;clear j1 j3 j4 hrx hj START HH
  gi_wp2_with fail
  refine ⟨by simp,.inl ⟨_,_,rfl,run_takeDeferred hK,?_⟩⟩;exact ⟨_,results_tmp rfl _ _ _,lo,lc,rfl,HF.out⟩
 case round=>
  rintro l k vs W hk hl hlW hj ⟨hk', rfl⟩;obtain ⟨Wa,hWa⟩:∃ Wa,Wa=W.alloc (.cells #[.int .i64 ((X[k].1:Nat):Int),.int .i64 ((X[k].2:Nat):Int)] 85):=⟨_,rfl⟩;have ka:Za W Wa:=by rw [hWa];exact Zal9
  have bx:Wa.heap[W.heap.size]? = some (.cells #[.int .i64 ((X[k].1:Nat):Int),.int .i64 ((X[k].2:Nat):Int)] 85 (0,0)):=by rw [hWa];exact heap_alloc_new _ _
  have hjs:=hj.same.size
  gi_wp2_with fail
  rw [<- hWa];clear hWa START HH;refine ⟨Rnd.same ka (by omega),λ o o' ho hoc hoc' => ?_⟩;have hjb:=(hj.up ka).put (o' := o') ho hoc (by omega);have bxb:=Yg (o' := o') ho hoc bx rfl;have lob:(Wa.putObj l o').heap[l]? = some o' := World.putObj_heap_same (Zi ho);obtain ⟨Wb,hWb⟩:∃ Wb,Wb=Wa.putObj l o' := ⟨_,rfl⟩;rw [<- hWb] at hjb bxb lob ⊢;have hzb:W0.heap.size<=Wb.heap.size:=by have:=Zi lob;omega
  clear hWb ho bx hj;have y0:=Zb bxb 0;have y1:=Zb bxb 1;simp only [List.getElem?_toArray,List.getElem?_cons_zero,List.getElem?_cons_succ] at y0 y1;obtain ⟨j1,v,j3,j4⟩:=hjb;have c3:=Zb j3 0;simp only [List.getElem?_toArray,List.getElem?_cons_zero] at c3;obtain ⟨ro,rc,rfl⟩:=Zf j4;obtain ⟨i0,hi0,hz0,hz1,hz2⟩:=info_parts Zpg;have b1:k+1<=maxLen:=by unfold maxLen;omega
  have b2:(k+1) * 16<=140737488355328:=by omega
  generalize hn1:X[k].1=n1 at *;generalize hn2:X[k].2=n2 at *;have b3:w.heap.size<=(Wb.alloc (.cells #[.int .i64 (n1:Int),.int .i64 (n2:Int)] 85)).heap.size:=by simp;omega
  have MORE:Hid (∀ w1 v', w1.ownsRow w.heap.size 85 2 v' (k+1) (rxV (X.take k) ++ [.int .i64 (n1:Int),.int .i64 (n2:Int)])->Zc (λ q=>(Value.slice ro k rc).ownBlock=some q) Wb w1->(w1.cell? ⟨w.heap.size,0,none⟩=some (.slice ro k rc)∧w1.frozen? ⟨w.heap.size,0,none⟩=false)∧RxJ X w (k+1) (w1.setCell ⟨w.heap.size,0,none⟩ v')∧Rnd W0.heap.size wc.heap.size Wb (w1.setCell ⟨w.heap.size,0,none⟩ v')):=λ w1 v' h1 h2=>by
   rw [<- hn1,<- hn2] at h1;obtain ⟨q1,q2,q3⟩:=RxJ.more (D:=W0.heap.size) (B:=wc.heap.size) j1 j3 j4 hk' h1 h2 (by omega);exact ⟨⟨Zb q1 0,Zg q1 0⟩,q2,q3⟩
  have HOW:Hid (Wb.ownsRow w.heap.size 85 2 (.slice ro k rc) k (rxV (X.take k))):=j4;have HNW:Hid (∀ j u,[Value.int .i64 (n1:Int),.int .i64 (n2:Int)][j]? = some u->(Wb.alloc (.cells #[.int .i64 (n1:Int),.int .i64 (n2:Int)] 85)).cell? ((⟨Wb.heap.size,0,none⟩:Addr).add j)=some u):=World.news_of_block (cs:=#[.int .i64 (n1:Int),.int .i64 (n2:Int)]) (t:=85) (fr:=(0,0)) (heap_alloc_new Wb _);have HON:Hid (∀ u∈[Value.int .i64 (n1:Int),.int .i64 (n2:Int)],u.oneCell' = true):=by (show ∀ u∈_,_);intro u hu;simp at hu;rcases hu with rfl | rfl <;> rfl
  clear j1 j3 j4 bxb lob hn1 hn2;generalize rxV (X.take k)=cs at *
  gi_wp2_with (gi_at_builtin;refine wpListIn_append_own _ rfl _ _ 77 rfl w.heap.size 85 i0 _ 2 16 underlying77 hi0 hz0 hz1 hz2 rfl (by decide) (.slice ro k rc) k cs rfl (World.ownsRow.alloc HOW.out _) ⟨Wb.heap.size,0,none⟩ 1 1 _ rfl rfl HNW.out HON.out b1 b2 b3 ?_;intro v' w1 hown' hgrow _;obtain ⟨g9,cap9,rfl⟩:=ownsRow_succ hown'; obtain ⟨⟨m1', m2'⟩,m3,m4⟩:=MORE.out w1 _ hown' (Zc.grown (Zc.alloc (Zc.refl _ Wb) _) hgrow (λ _ e _=>e)))
  all_goals first | exact m4 | (rw [<- z0];exact m4)
theorem Zdm {rc:Nat} (h:Zcu wc b bs ro rc tto tc L R T) (hc:Za wc w) (hbx:wc.cell? ⟨Bn,0,none⟩=some (.pointer (some ⟨b,0,none⟩))) :
  Calls prog 65 #[.func (.func 107) #[] #[.pointer (some ⟨Bn,0,none⟩)]] w λ e w' => ∃ lo lc,e=.returned (.slice lo (Vx L R T).length lc)∧Kl w' lo (Vx L R T)∧Za w w' := by
 have C:=Zo0 h hc hbx;clear h hbx;generalize Vx L R T=X at *
 go_enter func65,ntmps65
 go_wp2_with ((go_at_call 106;refine C.mono ?_;rintro e w2 ⟨lo,lc,rfl,h2,k2⟩))
 go_ret;exact ⟨lo,lc,rfl,h2,k2⟩
theorem Zdv (w:World) (b:Nat) :
  Calls prog 66 #[.pointer (some ⟨b,0,none⟩)] w λ e w' => e=.returned (.func (.func 107) #[] #[.pointer (some ⟨w.heap.size,0,none⟩)])∧w' = w.alloc (.cells #[.pointer (some ⟨b,0,none⟩)] 142):=by
 go_enter func66,ntmps66
 go_wp2;go_ret;exact ⟨rfl,rfl⟩
theorem Zlf (hs:Kl w lo X) (hle:X.length<=2000) (hwx:Za w wx) (hbx:wx.cell? ⟨Bn,0,none⟩=some (.slice lo X.length lc)) (hn:1<=n) :
  Zjg Fence.wide n prog 164 #[.pointer (some ⟨Bn,0,none⟩)] w.heap.size X.length (RxLk X) wx:=by
 intro l J Z W hW hJ hZ hY h0;have hFn:∀ k,Fence.wide.fn k:=λ _=>trivial;have KW:Za w W:=hwx.trans' hW;have s1:W.cell? ⟨Bn,0,none⟩=some (.slice lo X.length lc):=(hW.cell (p:=⟨Bn,0,none⟩) (World.block_lt_of_cell? _ _ hbx) (λ f=>f)).trans hbx;have HS:Hid (∀ Y,Za w Y->Kl Y lo X):=λ Y hk=>hs.same hk;clear hs;refine callsIn_of_wp func164 rfl trivial ?_ rfl;simp only [ntmps164,List.size_toArray,List.length_cons,List.length_nil,Nat.reduceAdd,Nat.reduceSub,Array.replicate_succ,Array.replicate_zero,List.push_toArray,List.append_toArray,List.nil_append,List.cons_append]
 gi_wp2_with fail
 gi_loopw [7] (λ i wr=>∃ k:Nat,k<=X.length∧i=.int .i64 k∧Za w wr∧J k wr) (λ i _=>X.length-(intOf i).toNat)
 case atStart=>exact ⟨0,Nat.zero_le _,rfl,KW,h0⟩
 case round=>
  clear s1;obtain ⟨k,hk,rfl,hs,hj⟩:=hrel
  by_cases hlt:k<X.length
  ·obtain ⟨q,rfl,hq,x0,x1⟩:∃ q,lo=some ⟨q,0,none⟩∧q<wr.heap.size∧wr.cell? ⟨q,k * 2,none⟩=some (.int .i64 ((X[k].1:Nat):Int))∧wr.cell? ⟨q,k * 2+1,none⟩=some (.int .i64 ((X[k].2:Nat):Int)):=by
    rcases HS.out wr hs with e | ⟨q,e,hq,h3⟩
    ·rw [e] at hlt;simp at hlt
    ·exact ⟨q,e,hq,h3 k hlt⟩
   have i1:(0:Int)<=(k:Int):=by omega
   have i2:(k:Int)<(X.length:Int):=by omega
   have ka:Za wr (wr.alloc (.cells #[.int .i64 ((X[k].1:Nat):Int),.int .i64 ((X[k].2:Nat):Int)] 85)):=Zal9;obtain ⟨fn,tmps,asg,bdy,hy,hR⟩:=hY k _ _ hlt (hJ k _ _ hj ka) ⟨hlt,rfl⟩;have hs3:=hs.trans' ka
   gi_wp2_with fail
   refine hR.mono ?_;rintro e w4 (⟨rfl,hj4,hb4⟩ | ⟨rfl,hz4⟩)
   rotate_left
   ·clear hR hy
    gi_wp2_with fail
    go_returns
    exact ⟨⟨_,rfl⟩,.inr hz4⟩
   have hs4:Za w w4:=Za.of_below (hs3.below.trans hb4);clear hR hy
   gi_wp2_with fail
   go_roundw
   case rel=>exact ⟨k+1,by omega,by go_num,hs4,hj4⟩
   case measure=>simp [intOf];omega
  ·obtain rfl:k=X.length:=by omega
   gi_wp2_with fail
   go_end0
   exact ⟨⟨_,rfl⟩,.inl hj⟩
theorem Zob {w3:World} {a0 a1:Value} {t:TypeId} (hb:w3.heap[n]? = some (.cells #[a0,a1] t (0,0))) (x0 x1:Value):((w3.setCell ⟨n,0,none⟩ x0).setCell ⟨n,1,none⟩ x1).heap[n]? = some (.cells #[x0,x1] t (0,0))∧Zc (λ q=>q=n) w3 ((w3.setCell ⟨n,0,none⟩ x0).setCell ⟨n,1,none⟩ x1):=
 ⟨Zt (Zt hb 0 x0) 1 x1,Zc.trans (Yh w3 n 0 x0) (Yh _ n 1 x1) (λ _ _ e=>e)⟩
def ZfR {XS:List (Nat × Nat)} (w:World) (q:Nat->Bool) (W:World):Prop:=
 ∃ k,∃ hk:k<XS.length,q k=true∧(∀ j,j<k->q j=false)∧∃ u0:Unit,W.heap[w.heap.size+1]? = some (.cells #[.int .i64 ((XS[k].1:Nat):Int),.int .i64 ((XS[k].2:Nat):Int)] 85 (0,0))∧W.heap[w.heap.size+1+1]? = some (.cells #[.bool true] 4 (0,0))∧Za w W
theorem ZfR.same {XS:List (Nat × Nat)} {X:World} (h:ZfR (XS:=XS) w q X) (hk:Za X Y):ZfR (XS:=XS) w q Y:=by
 obtain ⟨k,hk', h1,h2,u0,h3,h4,h5⟩:=h;exact ⟨k,hk', h1,h2,u0,hk.at0 h3,hk.at0 h4,h5.trans' hk⟩
theorem ZfR.put {XS:List (Nat × Nat)} {X:World} {l:Nat} (h:ZfR (XS:=XS) w q X) (hl:X.heap[l]? = some o) (ho:o.isCells=false) (hw:w.heap.size<=l):ZfR (XS:=XS) w q (X.putObj l o'):=by
 obtain ⟨k,hk', h1,h2,u0,h3,h4,h5⟩:=h;have kk:Zc (λ k=>k=l) X (X.putObj l o'):=Y0
 have no:∀ q,(λ q=>q=l) q->∀ cur,X.heap[q]? ≠ some (.cells cur 3 (0,0)):=λ q e cur hc=>by
  have e' : q=l:=e;rw [e', hl] at hc;cases hc;cases ho
 exact ⟨k,hk', h1,h2,u0,Yg hl ho h3 rfl,Yg hl ho h4 rfl,Zc.trans h5 kk (λ i hi e=>by have e' : i=l:=e;omega)⟩
theorem Zp0 (hs:Kl w lo XS) (hle:XS.length<=2000) (hB:w.cell? ⟨Bn,0,none⟩=some (.slice lo XS.length lc)) {ab:Nat}
  (HP:Hid (∀ k (hk:k<XS.length) ww,Za w ww->Calls prog 114 #[.agg #[.int .i64 ((XS[k].1:Nat):Int),.int .i64 ((XS[k].2:Nat):Int)],.pointer (some ⟨cb,0,none⟩),.pointer (some ⟨ab,0,none⟩)] ww λ e w' => e=.returned (.bool (q k))∧Za ww w')) :
  Calls prog 108 #[.func (.func 164) #[] #[.pointer (some ⟨Bn,0,none⟩)],.func (.func 114) #[] #[.pointer (some ⟨cb,0,none⟩),.pointer (some ⟨ab,0,none⟩)]] w λ e w' => Za w w' ∧ ((∃ k,∃ hk:k<XS.length,q k=true∧(∀ j,j<k->q j=false)∧∃ u0:Unit,e=.returned (.tuple #[.agg #[.int .i64 ((XS[k].1:Nat):Int),.int .i64 ((XS[k].2:Nat):Int)],.bool true]))∨((∀ j,j<XS.length->q j=false)∧e=.returned (.tuple #[.agg #[.int .i64 0,.int .i64 0],.bool false]))):=by
 have hFn:∀ k,Fence.wide.fn k:=λ _=>trivial;obtain ⟨W1,hW1⟩:∃ W1,W1=((w.alloc (.cells #[.func (.func 114) #[] #[.pointer (some ⟨cb,0,none⟩),.pointer (some ⟨ab,0,none⟩)]] 214)).alloc (.cells #[.int .i64 0,.int .i64 0] 85)).alloc (.cells #[.bool false] 4):=⟨_,rfl⟩;have KW:Za w W1:=by rw [hW1];exact (((Zc.refl _ w).alloc _).alloc _).alloc _
 have ez:W1.heap.size=w.heap.size+1+1+1:=by rw [hW1];simp
 have BK:Hid (∀ ww,Za W1 ww->ww.heap[w.heap.size]? = some (.cells #[.func (.func 114) #[] #[.pointer (some ⟨cb,0,none⟩),.pointer (some ⟨ab,0,none⟩)]] 214 (0,0))∧ww.heap[w.heap.size+1]? = some (.cells #[.int .i64 0,.int .i64 0] 85 (0,0))∧ww.heap[w.heap.size+1+1]? = some (.cells #[.bool false] 4 (0,0))):=λ ww hk=>by
  have k1:Za (w.alloc (.cells #[.func (.func 114) #[] #[.pointer (some ⟨cb,0,none⟩),.pointer (some ⟨ab,0,none⟩)]] 214)) W1:=by rw [hW1];exact (Zal9).alloc _
  have k2:Za ((w.alloc (.cells #[.func (.func 114) #[] #[.pointer (some ⟨cb,0,none⟩),.pointer (some ⟨ab,0,none⟩)]] 214)).alloc (.cells #[.int .i64 0,.int .i64 0] 85)) W1:=by rw [hW1];exact Zal9
  refine ⟨hk.at0 (k1.at0 (heap_alloc_new w _)),hk.at0 (k2.at0 (Zo _ _ _)),hk.at0 ?_⟩;have:=Zo (w.alloc (.cells #[.func (.func 114) #[] #[.pointer (some ⟨cb,0,none⟩),.pointer (some ⟨ab,0,none⟩)]] 214)) (.cells #[.int .i64 0,.int .i64 0] 85) (.cells #[.bool false] 4);simp only [World.size_alloc] at this;rw [hW1];exact this
 have PUT:Hid (∀ X,(X.heap[w.heap.size+1]? = some (.cells #[.int .i64 0,.int .i64 0] 85 (0,0))∧X.heap[w.heap.size+1+1]? = some (.cells #[.bool false] 4 (0,0)))->∀ (p0 p1:Value) (bb:Bool) Z,Z=((X.setCell ⟨w.heap.size+1,0,none⟩ p0).setCell ⟨w.heap.size+1,1,none⟩ p1).setCell ⟨w.heap.size+1+1,0,none⟩ (.bool bb)->Z.heap[w.heap.size+1]? = some (.cells #[p0,p1] 85 (0,0))∧Z.heap[w.heap.size+1+1]? = some (.cells #[.bool bb] 4 (0,0))∧Zc (λ q=>q=w.heap.size+1∨q=w.heap.size+1+1) X Z):=λ X hX p0 p1 bb Z hZ=>by
  obtain ⟨pa,pb⟩:=Zob hX.1 p0 p1;have pc:=pb.at hX.2 (λ e=>by have e' : w.heap.size+1+1=w.heap.size+1:=e;omega);have k3:=Yh ((X.setCell ⟨w.heap.size+1,0,none⟩ p0).setCell ⟨w.heap.size+1,1,none⟩ p1) (w.heap.size+1+1) 0 (.bool bb);rw [hZ];refine ⟨k3.at pa (λ e=>by have e' : w.heap.size+1=w.heap.size+1+1:=e;omega),Zt pc 0 (.bool bb),Zc.trans (pb.mono (λ _ _ e=>.inl e)) k3 (λ _ _ e=>.inr e)⟩
 have HH:=Zlf (n:=8) (hs.same KW) hle (Zc.refl _ _) ((KW.cell (p:=⟨Bn,0,none⟩) (World.block_lt_of_cell? _ _ hB) (λ f=>f)).trans hB) (by omega);refine (callsIn_wide (n:=9)).1 ?_;refine callsIn_of_wp_marks func108 rfl trivial ?_ rfl;simp only [ntmps108,List.size_toArray,List.length_cons,List.length_nil,Nat.reduceAdd,Nat.reduceSub,Array.replicate_succ,Array.replicate_zero,List.push_toArray,List.append_toArray,List.nil_append,List.cons_append]
 gi_upto_region 1 with fail
 rw [<- hW1];clear hW1
 gi_wp2_with fail
 refine Zaj rfl (by omega) (gf:=164) (lb:=#[.pointer (some ⟨Bn,0,none⟩)]) rfl trivial (enters_of func164 (by kernel_rfl) rfl) (B:=W1.heap.size) (Nat.le_refl _) HH (λ k vs W h=>by obtain ⟨_,rfl⟩:=h;rfl)
  (λ k W=>Hid ((∀ j,j<k->q j=false)∧Za W1 W)) (λ k X Y h hk=>⟨h.out.1,h.out.2.trans' hk⟩) (λ k X l o o' h hl ho hw=>⟨h.out.1,Zc.trans h.out.2 (Y0 (l:=l) (o' := o')) (λ i hi e=>by have e' : i=l:=e;omega)⟩) ⟨λ j hj=>absurd hj (by omega),Zc.refl _ _⟩ (λ W=>Hid (ZfR (XS:=XS) w q W)) (λ X Y h hk=>h.out.same hk) (λ X l o o' h hl ho hw=>h.out.put hl ho (by omega)) ?round ?done ?stop
 case done=>
  rintro D W hD hj hD2;have hs:=hj.out.2;have hq:=hj.out.1;obtain ⟨Wa,hWa⟩:∃ Wa,Wa=W.alloc (.cells #[.int .i64 0,.int .i64 0] 85):=⟨_,rfl⟩;have ka:Za W Wa:=by rw [hWa];exact Zal9
  have bz:Wa.heap[W.heap.size]? = some (.cells #[.int .i64 0,.int .i64 0] 85 (0,0)):=by rw [hWa];exact heap_alloc_new _ _
  obtain ⟨g0,g1,g2⟩:=BK.out Wa (hs.trans' ka);have hDa:=ka.at0 hD2;have r0:=Zb g1 0;have s0:=Zg g1 0;have z0:=Zb bz 0;have r1:=Zb g1 1;have s1:=Zg g1 1;have z1:=Zb bz 1;have n0:=Zb g2 0;have f0:=Zg g2 0;simp only [List.getElem?_toArray,List.getElem?_cons_zero,List.getElem?_cons_succ] at r0 r1 z0 z1 n0;obtain ⟨X,hX⟩:∃ X,X=((Wa.setCell ⟨w.heap.size+1,0,none⟩ (.int .i64 0)).setCell ⟨w.heap.size+1,1,none⟩ (.int .i64 0)).setCell ⟨w.heap.size+1+1,0,none⟩ (.bool false):=⟨_,rfl⟩;obtain ⟨e1,e2,kx⟩:=PUT.out Wa ⟨g1,g2⟩ (.int .i64 0) (.int .i64 0) false X hX;have hD3:=kx.at hDa (λ e=>by rcases e with e | e <;> omega);have gZ:=(World.putObj_heap_other (w:=X) (r:=D) (o:=.deferred none) (k:=w.heap.size+1) (by omega)).trans e1;have gY:=(World.putObj_heap_other (w:=X) (r:=D) (o:=.deferred none) (k:=w.heap.size+1+1) (by omega)).trans e2;have v0:=Zb gZ 0;have v1:=Zb gZ 1;have v9:=Zb gY 0;simp only [List.getElem?_toArray,List.getElem?_cons_zero,List.getElem?_cons_succ] at v0 v1 v9;have KF:Za w (X.putObj D (.deferred none)):=Zc.trans (Zc.trans ((KW.trans' hs).trans' ka) kx (λ i hi e=>by rcases e with e | e <;> omega)) (Y0 (l:=D) (o' := .deferred none)) (λ i hi e=>by have e' : i=D:=e;omega);have HX:Hid (((Wa.setCell ⟨w.heap.size+1,0,none⟩ (.int .i64 0)).setCell ⟨w.heap.size+1,1,none⟩ (.int .i64 0)).setCell ⟨w.heap.size+1+1,0,none⟩ (.bool false)=X):=hX.symm;have HKF:Hid (Za w (X.putObj D (.deferred none))):=KF;have HQ:Hid (∀ j,j<XS.length->q j=false):=hq;clear hX KF e1 e2 kx g0 g1 g2 gZ gY hq hs hj ka HH HP BK PUT
  gi_upto_region 6 with fail
  rw [<- hWa];clear hWa
  gi_wp2_with fail
  rw [HX.out];refine ⟨by simp,.inl ⟨_,_,rfl,run_takeDeferred hD3,?_⟩⟩;exact ⟨.tuple #[.agg #[.int .i64 0,.int .i64 0],.bool false],by simp [results,results108,go_sem,v0,v1,v9],HKF.out,.inr ⟨HQ.out,rfl⟩⟩
 case stop=>
  rintro D W hD hz hD2;obtain ⟨k,hk', h1,h2,u0,h3,h4,h5⟩:=(hz.out.put (o' := .deferred none) hD2 rfl (by omega):ZfR (XS:=XS) w q (W.putObj D (.deferred none)));have v0:=Zb h3 0;have v1:=Zb h3 1;have v9:=Zb h4 0;simp only [List.getElem?_toArray,List.getElem?_cons_zero,List.getElem?_cons_succ] at v0 v1 v9;clear HP BK PUT HH hz
  gi_wp2_with fail
  refine ⟨by simp,.inl ⟨_,_,rfl,run_takeDeferred hD2,?_⟩⟩;exact ⟨.tuple #[.agg #[.int .i64 ((XS[k].1:Nat):Int),.int .i64 ((XS[k].2:Nat):Int)],.bool true],by simp [results,results108,go_sem,v0,v1,v9],h5,.inl ⟨k,hk', h1,h2,u0,rfl⟩⟩
 case round=>
  rintro l k vs W hk hl hlW hj ⟨hk', rfl⟩;have hs:=hj.out.2;have hq:=hj.out.1;obtain ⟨Wa,hWa⟩:∃ Wa,Wa=W.alloc (.cells #[.int .i64 ((XS[k].1:Nat):Int),.int .i64 ((XS[k].2:Nat):Int)] 85):=⟨_,rfl⟩;have ka:Za W Wa:=by rw [hWa];exact Zal9
  have bx:Wa.heap[W.heap.size]? = some (.cells #[.int .i64 ((XS[k].1:Nat):Int),.int .i64 ((XS[k].2:Nat):Int)] 85 (0,0)):=by rw [hWa];exact heap_alloc_new _ _
  have hsz:=hs.size
  gi_wp2_with fail
  rw [<- hWa];clear hWa;refine ⟨Rnd.same ka (by omega),λ o o' ho hoc hoc' => ?_⟩;have hpk:Zc (λ q=>q=l) Wa (Wa.putObj l o'):=Y0
  have no:∀ q,(λ q=>q=l) q->∀ cur,Wa.heap[q]? ≠ some (.cells cur 3 (0,0)):=λ q e cur hc=>by
   have e' : q=l:=e;rw [e', ho] at hc;cases hc;cases hoc
  have hjb:Za W1 (Wa.putObj l o'):=Zc.trans (hs.trans' ka) hpk (λ i hi e=>by have e' : i=l:=e;omega);have u0:Unit:=();have bxb:=Yg (o' := o') ho hoc bx rfl;obtain ⟨Wb,hWb⟩:∃ Wb,Wb=Wa.putObj l o' := ⟨_,rfl⟩;rw [<- hWb] at hjb bxb  ⊢;have hzb:=hjb.size;clear hWb hpk no ho bx ka hs hj HH;have x0:=Zb bxb 0;have x1:=Zb bxb 1;obtain ⟨g0,g1,g2⟩:=BK.out Wb hjb;have c0:=Zb g0 0;simp only [List.getElem?_toArray,List.getElem?_cons_zero,List.getElem?_cons_succ] at x0 x1 c0;have C:=HP.out k hk Wb  (KW.trans' hjb);cases hqk:q k with
  | false=>
   rw [hqk] at C
   have FIN:Hid (∀ w3,Za Wb w3->Rnd W1.heap.size W1.heap.size Wb w3∧Hid ((∀ j,j<k+1->q j=false)∧Za W1 w3)):=λ w3 hk3=>⟨Rnd.same hk3 (by omega),λ j hj2=>by
    by_cases e:j=k
    ·subst e;exact hqk
    ·exact hq j (by omega),hjb.trans' hk3⟩
   clear hq hqk hjb g0 g1 g2  HP BK PUT
   gi_wp2_with (gi_at_call 114;refine (CallsIn.inRound l (callsIn_wide.2 C)).mono ?_;rintro e w3 ⟨rfl,k3⟩;obtain ⟨m3,m4⟩:=FIN.out w3 k3)
   all_goals first | exact m3 | exact m4 | (rw [<- ez];exact m3)
  | true=>
   rw [hqk] at C
   have FINX:Hid (∀ w3,Za Wb w3->((w3.cell? ⟨W.heap.size,0,none⟩=some (.int .i64 ((XS[k].1:Nat):Int))∧w3.cell? ⟨W.heap.size,1,none⟩=some (.int .i64 ((XS[k].2:Nat):Int)))∧(w3.cell? ⟨w.heap.size+1,0,none⟩=some (.int .i64 0)∧w3.cell? ⟨w.heap.size+1,1,none⟩=some (.int .i64 0)∧w3.cell? ⟨w.heap.size+1+1,0,none⟩=some (.bool false))∧w3.frozen? ⟨w.heap.size+1,0,none⟩=false∧w3.frozen? ⟨w.heap.size+1,1,none⟩=false∧w3.frozen? ⟨w.heap.size+1+1,0,none⟩=false)∧∀ Y,Y=((w3.setCell ⟨w.heap.size+1,0,none⟩ (.int .i64 ((XS[k].1:Nat):Int))).setCell ⟨w.heap.size+1,1,none⟩ (.int .i64 ((XS[k].2:Nat):Int))).setCell ⟨w.heap.size+1+1,0,none⟩ (.bool true)->KeepsFrom W1.heap.size Wb Y∧Hid (ZfR (XS:=XS) w q Y)):=λ w3 hk3=>by
    obtain ⟨_,a1,a2⟩:=BK.out w3 (hjb.trans' hk3);have b1:=hk3.at0 bxb;refine ⟨⟨⟨Zb b1 0,Zb b1 1⟩,⟨Zb a1 0,Zb a1 1,Zb a2 0⟩,Zg a1 0,Zg a1 1,Zg a2 0⟩,λ Y hY=>?_⟩;obtain ⟨e1,e2,kx⟩:=PUT.out w3 ⟨a1,a2⟩ (.int .i64 ((XS[k].1:Nat):Int)) (.int .i64 ((XS[k].2:Nat):Int)) true Y hY;have kk:=Zc.trans (hk3.mono (S' := λ q=>q=w.heap.size+1∨q=w.heap.size+1+1) (λ _ _ f=>f.elim)) kx (λ _ _ e=>e);exact ⟨⟨kk.size,λ i o hi ho _=>kk.at ho (λ e=>by rcases e with e | e <;> omega)⟩,k,hk,hqk,hq,u0,e1,e2,Zc.trans ((KW.trans' hjb).trans' hk3) kx (λ i hi e=>by rcases e with e | e <;> omega)⟩
   clear hqk hjb g0 g1 g2  HP BK PUT hq bxb
   gi_wp2_with (gi_at_call 114;refine (CallsIn.inRound l (callsIn_wide.2 C)).mono ?_;rintro e w3 ⟨rfl,k3⟩;obtain ⟨⟨⟨y0,y1⟩,⟨y3,y4,y6⟩,y7,y8,y10⟩,FY⟩:=FINX.out w3 k3;obtain ⟨m3,m4⟩:=FY _ rfl;clear FY)
   all_goals first | exact m3 | exact m4 | (rw [<- ez];exact m3)
end
section
open Go.RowKit
attribute [local go_sem ↓] Go.wp_at_zero Go.wp_at_succ
def rxIn (p e:Nat) (x:Nat × Nat):Bool:=decide (p<x.1) && decide (x.1<e)
theorem Zvz {p r:Nat} {en:Nat} (h0:w.cell? ⟨xb,0,none⟩=some (.int .i64 (p:Int))) (h1:w.cell? ⟨eb,0,none⟩=some (.int .i64 (en:Int))) (o:Nat × Nat) :
  Calls prog 117 #[.agg #[.int .i64 (o.1:Int),.int .i64 (o.2:Int)],.pointer (some ⟨xb,0,none⟩),.pointer (some ⟨eb,0,none⟩)] w λ e w' => e=.returned (.bool (rxIn p en o))∧Za w w' := by
 obtain ⟨W1,hW1⟩:∃ W1,W1=w.alloc (.cells #[.int .i64 (o.1:Int),.int .i64 (o.2:Int)] 85):=⟨_,rfl⟩;have KW:Za w W1:=by rw [hW1];exact Zal9
 have bx:W1.heap[w.heap.size]? = some (.cells #[.int .i64 (o.1:Int),.int .i64 (o.2:Int)] 85 (0,0)):=by rw [hW1];exact heap_alloc_new _ _
 have x0:=Zb bx 0;have c0:=(KW.cell (p:=⟨xb,0,none⟩) (World.block_lt_of_cell? _ _ h0) (λ f=>f)).trans h0;have c1:=(KW.cell (p:=⟨eb,0,none⟩) (World.block_lt_of_cell? _ _ h1) (λ f=>f)).trans h1;simp only [List.getElem?_toArray,List.getElem?_cons_zero] at x0;have KF:Hid (Za w W1):=KW;unfold rxIn;generalize o.1=q at *;generalize o.2=r2 at *;clear h0 h1 bx KW
 by_cases hq:p<q
 ·have i1:(p:Int)<(q:Int):=by omega
  have e1:decide (p<q)=true:=by simpa using hq
  rw [e1,Bool.true_and]
  go_enter func117,ntmps117
  go_upto_region 1 with fail
  rw [<- hW1];clear hW1;go_wp2;go_ret;exact ⟨by first | rfl | simp,KF.out⟩
 ·have i1:¬ (p:Int)<(q:Int):=by omega
  have e1:decide (p<q)=false:=by simpa using hq
  rw [e1,Bool.false_and]
  go_enter func117,ntmps117
  go_upto_region 1 with fail
  rw [<- hW1];clear hW1;go_wp2;go_ret;exact ⟨by first | rfl | simp,KF.out⟩
theorem Zyb (hP:∀ ww (o:Nat × Nat),Za w0 ww->Calls prog 117 #[.agg #[.int .i64 (o.1:Int),.int .i64 (o.2:Int)],.pointer (some ⟨xb,0,none⟩),.pointer (some ⟨eb,0,none⟩)] ww λ e w' => e=.returned (.bool (P o))∧Za ww w') (ht:Kl w0 lo X) (hm:X.length<=2000) (hw:Za w0 w) :
  Calls prog 165 #[.slice lo X.length lc,.func (.func 117) #[] #[.pointer (some ⟨xb,0,none⟩),.pointer (some ⟨eb,0,none⟩)]] w λ e w' => ∃ z:Int,e=.returned (.int .i64 z)∧Ym z (X.any P)∧Za w0 w' := by
 have CP:Hid (∀ ww (o:Nat × Nat),Za w0 ww->Calls prog 117 #[.agg #[.int .i64 (o.1:Int),.int .i64 (o.2:Int)],.pointer (some ⟨xb,0,none⟩),.pointer (some ⟨eb,0,none⟩)] ww λ e w' => e=.returned (.bool (P o))∧Za ww w'):=hP;clear hP
 go_enter func165,ntmps165
 go_wp2
 go_loopw [8] (λ i wr=>∃ k:Nat,k<=X.length∧i=.int .i64 (k:Int)∧Hid ((X.take k).any P=false)∧Za w0 wr) (λ i _=>X.length-(intOf i).toNat)
 case atStart=>exact ⟨0,Nat.zero_le _,rfl,by show _=_;simp,hw⟩
 case round=>
  clear hw;obtain ⟨k,hk,rfl,ha,hw⟩:=hrel
  by_cases hlt:k<X.length
  ·obtain ⟨q,rfl,hq,x0,x1⟩:∃ q,lo=some ⟨q,0,none⟩∧q<wr.heap.size∧wr.cell? ⟨q,k * 2,none⟩=some (.int .i64 ((X[k].1:Nat):Int))∧wr.cell? ⟨q,k * 2+1,none⟩=some (.int .i64 ((X[k].2:Nat):Int)):=by
    rcases ht.same hw with e | ⟨q,e,hq,h3⟩
    ·rw [e] at hlt;simp at hlt
    ·exact ⟨q,e,hq,h3 k hlt⟩
   have i1:(0:Int)<=(k:Int):=by omega
   have i2:(k:Int)<(X.length:Int):=by omega
   have C:=CP.out wr X[k] hw;cases hb:P X[k] with
   | true=>
    have H:Hid (Ym (k:Int) (X.any P)):=by
     have e1:X.any P=true:=List.any_eq_true.2 ⟨X[k],List.getElem_mem hlt,hb⟩;show decide _=_;rw [e1];simp
    rw [hb] at C;clear CP hb ha
    go_wp2_with ((go_at_call 117;refine C.mono ?_;rintro e w2 ⟨rfl,hw2⟩))
    go_ret;exact ⟨_,rfl,H.out,hw.trans' hw2⟩
   | false=>
    have H:Hid ((X.take (k+1)).any P=false):=by
     have e1:=ha.out;show _=_;rw [List.take_add_one,List.getElem?_eq_getElem hlt,List.any_append,e1];simp [hb]
    rw [hb] at C;clear hb ha;have hw9:Hid (∀ ww,Za wr ww->Za w0 ww):=λ ww hk=>hw.trans' hk;clear hw
    go_wp2_with ((go_at_call 117;refine C.mono ?_;rintro e w2 ⟨rfl,hw2⟩))
    exact ⟨⟨k+1,by omega,by go_num,H,hw9.out _ hw2⟩,by simp [intOf];omega⟩
  ·have H:Hid (Ym (-1) (X.any P)):=by
    have:=ha.out;rw [List.take_of_length_le (by omega)] at this;show decide _=_;rw [this];rfl
   go_wp2;go_ret;exact ⟨_,rfl,H.out,hw⟩
theorem Zqz (hP:∀ ww (o:Nat × Nat),Za w0 ww->Calls prog 117 #[.agg #[.int .i64 (o.1:Int),.int .i64 (o.2:Int)],.pointer (some ⟨xb,0,none⟩),.pointer (some ⟨eb,0,none⟩)] ww λ e w' => e=.returned (.bool (P o))∧Za ww w') (ht:Kl w0 lo X) (hm:X.length<=2000) (hw:Za w0 w) :
  Calls prog 116 #[.slice lo X.length lc,.func (.func 117) #[] #[.pointer (some ⟨xb,0,none⟩),.pointer (some ⟨eb,0,none⟩)]] w λ e w' => e=.returned (.bool (X.any P))∧Za w0 w' := by
 have C:=Zyb (lc:=lc) hP ht hm hw;clear hP ht hw
 go_enter func116,ntmps116
 go_wp2_with ((go_at_call 165;refine C.mono ?_;rintro e w2 ⟨z,rfl,hz,hw2⟩))
 go_ret;exact ⟨Z5 (Ym.eq hz),hw2⟩
end
section
variable {P : Program} {md : Region.Mode} {ops : Array Oper} {Q : Exit -> Act -> World -> Prop} {l n : Nat}
theorem Zh9 {o:Oper} (hd:∀ c,o.op≠.defer c) {K K' : Act->World->Prop} (hK:∀ a w,K a w->K' a w) (h:o.wp P a w K Q):o.wpIn (Fence.wide.inRound l) n P a w K' Q:=by
 unfold Oper.wp at h;unfold Oper.wpIn;refine ⟨λ f _=>trivial,?_⟩;rw [Oper.semAt_plain _ _ _ hd];generalize (execOp a.eval o).run P w=r at h;cases r with
 | ok x w' =>
  cases x with
  | value v=>exact hK _ _ h
  | skip=>exact hK _ _ h
  | defer d=>exact hK _ _ h
  | enter f args=>
   refine ⟨λ e=>(by cases e),CallsIn.mono (CallsIn.inRound l (callsIn_wide.2 h)) λ e w'' he=>?_⟩;cases e with
   | returned v=>exact hK _ _ he
   | panicked c=>exact he
   | outgrown=>exact he
  | row row args=>
   refine ⟨λ e=>(by cases e),λ c cs _=>?_⟩;obtain ⟨v,w'', r,s⟩:=h c cs;exact ⟨v,w'', hK _ _ r,stepsIn_wide.2 s⟩
  | round l f tmps assign body=>exact h.elim
  | _=>exact h.elim
 | halt x w' =>
  cases x with
  | panic v=>exact h
  | _=>exact h.elim
theorem Jk (hno:¬ LetsOut Q) (hd:∀ (j:Nat) (o:Oper),ops[j]? = some o->∀ c,o.op≠.defer c):∀ (fuel:Nat) (listed:Array Bool) (a:Act) (w:World),wpAny P md ops Q fuel listed a w->wpAnyIn (Fence.wide.inRound l) n P md ops Q fuel listed a w
 | 0,_,_,_,h=>h
 | fuel+1,listed,a,w,h=>by
  refine ⟨h.1,λ i hi=>?_⟩;have h2:=h.2 i hi;unfold wpOp at h2;unfold wpOpIn;cases ho:ops[i]? with
  | none=>
   rw [ho] at h2;exact Jk hno hd _ _ _ _ h2
  | some o=>
   rw [ho] at h2;simp only at h2 ⊢;split
   ·rename_i hw
    rw [if_pos hw] at h2
    rcases h2 with h2 | h2
    ·exact Zh9 (hd i o ho) (λ a w h=>Jk hno hd _ _ _ _ h) h2
    ·exact absurd h2.2 hno
   ·rename_i hw
    rw [if_neg hw] at h2;exact ⟨λ f _=>trivial,Jk hno hd _ _ _ _ h2⟩
def Zk1 (o:Oper):Bool:=match o.op with
 | .defer _=>false
 | _=>true
theorem Zk0 {ops:Array Oper} (h:ops.toList.all Zk1=true) (j:Nat) (o:Oper) (ho:ops[j]? = some o):∀ c,o.op≠.defer c:=by
 intro c e
 have hm:o∈ops.toList:=by
  rw [<- Array.getElem?_toList] at ho;exact List.mem_of_getElem? ho
 have:=List.all_eq_true.1 h o hm;unfold Zk1 at this;rw [e] at this;cases this
theorem Zb9 {id:Nat} (hm:P.follows .mixedOrders=true) (hno:¬ LetsOut Q) (hd:ops.toList.all Zk1=true) (hS:S w.drew)
  (h:S w.drew->wpAnyH P .any ops Q S ops.size (Array.replicate ops.size false) a w.drew):(Code.region id ops true).wpIn (Fence.wide.inRound l) n P Q a w:=
 wpIn_region_any hm (Jk hno (Zk0 hd) _ _ _ _ (wpAny_of_held _ _ _ _ (h hS)))
theorem Ya (i d:Nat) {oi:Oper} (v:Value) {fuel:Nat} {listed:Array Bool} (hi:ops[i]? = some oi) (hdst:oi.dst=some d)
  (hs:Region.noSelect ops=true) (hf:Region.free md ops listed i=true) (hr:(Region.ready md ops listed).contains i=true)
  (hQ:∀ c a a' w,Q (.panic c) a w->Q (.panic c) a' w) (hy:YieldsIf P ops S oi v a) (hS:S w)
  (h:wpAnyH P md ops Q S fuel (listed.setIfInBounds i true) { a with tmps:=a.tmps.setIfInBounds d v } w):wpAnyH P md ops Q S (fuel+1) listed a w:=by
 refine wpAnyH_take hi hs hf hr (λ c a w=>hQ c _ _ w) hy hS ?_;rw [hdst];exact h
end
section
open Go.RowKit
structure Zuh (D A B:Nat) (W W' : World):Prop where
 recs:KeepsFrom D W W'
 kp:Zc (λ i=>i=A∨B<=i) W W'
theorem Zuh.same (h:Za W W'):Zuh D A B W W' := ⟨⟨h.size,λ k o _ hk _=>h.at0 hk⟩,h.mono (λ _ _ f=>f.elim)⟩
theorem Zuh.of {S:Nat->Prop} (h:Zc S W W') (hc:∀ k,S k->∃ cur t fr,W.heap[k]? = some (.cells cur t fr)) (hB:∀ k,S k->k=A∨B<=k):Zuh D A B W W' :=
 ⟨⟨h.size,λ k o _ hk ho=>h.at hk (λ s=>by obtain ⟨cur,t,fr,e⟩:=hc k s;rw [hk] at e;cases e;cases ho)⟩,h.mono (λ k _ s=>hB k s)⟩
section
variable {F : Fence} {n : Nat} {P : Program}
def Zw3 (F:Fence) (n:Nat) (P:Program) (gf:Nat) (lb:Array Value) (A B N:Nat) (Lk:Nat->Array Value->World->Prop) (w:World):Prop:=
 ∀ (l:Nat) (J:Nat->World->Prop) (W:World),Za w W->(∀ k X Y,J k X->Za X Y->J k Y) ->
  (∀ k vs X,k<N->J k X->Lk k vs X->YieldAt F (n-1) P l vs X λ e Y=>e=.returned (.bool true)∧J (k+1) Y∧Zc (λ i=>i=A∨B<=i) X Y)->J 0 W ->
  CallsIn F n P gf (#[.func (.yield l) #[] #[]]++lb) W λ e Y=>(∃ v,e=.returned v)∧J N Y
theorem Zs2 {g:Operand} {ps:Array Tmp} {assign body:Code} {Q:Exit->Act->World->Prop}
  (hro:F.round=none) (h1:1<=n) {gf:Nat} {lb:Array Value} (hg:a.eval g=.func (.func gf) #[] lb) (hFg:F.fn gf) (eg:∀ args w,(callFunc gf args).run P w=.ok (.enter gf args) w)
  {Lk:Nat->Array Value->World->Prop} (hB:B<=w.heap.size) (hh:Zw3 F (n-1) P gf lb A B N Lk w) (hsz:∀ k vs W,Lk k vs W->vs.size=ps.size)
  (J:Nat->World->Prop) (hJ:∀ k X Y,J k X->Za X Y->J k Y) (hJp:∀ k X l o o', J k X->X.heap[l]? = some o->o.isCells=false->w.heap.size<=l->J k (X.putObj l o')) (h0:J 0 w)
  (hround:∀ (l k:Nat) (vs:Array Value) (W:World),k<N->w.heap.size<=l->l<W.heap.size->J k W->Lk k vs W ->
   assign.wpIn (F.inRound l) (n-1-1) P (Exit.then (λ a' Wa=>Zuh w.heap.size A B W Wa∧∀ o o', Wa.heap[l]? = some o->o.isCells=false->o'.isCells=false ->
    body.wpIn (F.inRound l) (n-1-1) P (λ e _ Y=>e=.normal∧Zuh w.heap.size A B (Wa.putObj l o') Y∧J (k+1) Y) a' (Wa.putObj l o')) (λ _ _ _=>False))
    { tmps:=(ps.zip vs).foldl (λ t (p,v)=>t.setIfInBounds p v) a.tmps,defers:=[] } W)
  (hdone:∀ (D:Nat) (W:World),w.heap.size<=D->J N W->W.heap[D]? = some (.deferred (some []))->Q .normal { a with defers:={ target:=.collected D,args:=#[] } :: a.defers } W) :
  (Code.rangeFunc g ps assign body).wpIn F n P Q a w:=by
 refine wpIn_rangeFunc λ fn hfn=>?_;rw [hro];have hen:=run_enterLoop_outer (P:=P) (w:=w) fn a.tmps ps assign body;obtain ⟨st,hst⟩:∃ st:LoopState->Option Code->Loop,st=λ s p=>{ state:=s,pending:=p,fn:=fn,tmps:=a.tmps,params:=ps,assign:=assign,body:=body,defers:=w.heap.size }:=⟨_,rfl⟩;obtain ⟨W1,hW1⟩:∃ W1,W1=(w.alloc (.deferred (some []))).alloc (.loop (st .ready none)):=⟨_,rfl⟩;have hs1:Za w W1:=by rw [hW1];exact ((Zc.refl _ w).alloc _).alloc _
 have hd1:W1.heap[w.heap.size]? = some (.deferred (some [])):=by
  rw [hW1];exact (Below.heap_alloc _ _ _ (by simp)).trans (World.alloc_heap_new w _)
 have hl1:W1.heap[w.heap.size+1]? = some (.loop (st .ready none)):=by
  have:=World.alloc_heap_new (w.alloc (.deferred (some []))) (.loop (st .ready none));rw [hW1];simpa using this
 refine ⟨w.heap.size+1,[{ target:=.collected w.heap.size,args:=#[] }],W1, { target:=.fn (.func gf) lb,args:=#[.func (.yield (w.heap.size+1)) #[] #[]] },W1,gf, #[.func (.yield (w.heap.size+1)) #[] #[]]++lb,W1,?_,?_,?_,?_,λ _=>h1,?_⟩
 ·rw [hen,hW1,hst]
 ·simp only [resolve,hg];simp [go_sem]
 ·intro f' hf'; simp [Target.leads] at hf'; subst hf'; exact hFg
 ·simp [invoke,go_sem,eg]
 ·have hcall:=hh (w.heap.size+1) (λ k X=>J k X∧X.heap[w.heap.size+1]? = some (.loop (st .ready none))∧X.heap[w.heap.size]? = some (.deferred (some []))) W1 hs1
   (λ k X Y h hk=>⟨hJ k X Y h.1 hk,hk.at0 h.2.1,hk.at0 h.2.2⟩) ?_ ⟨hJ 0 _ _ h0 hs1,hl1,hd1⟩
  ·refine hcall.mono ?_
   rintro e Y ⟨⟨v,rfl⟩,hj,hl,hd⟩;have hend:=run_endLoop (P:=P) hl (by rw [hst];simp);rw [hst] at hend;exact ⟨none,_,hend,hdone w.heap.size _ (Nat.le_refl _) (hJp _ _ _ _ _ hj hl rfl (by omega)) ((World.putObj_heap_other (by omega)).trans hd)⟩
  ·rintro k vs X hk ⟨hj,hl,hd⟩ hlk
   have hy:=run_yield (P:=P) (args:=vs) hl (by rw [hst];exact hsz k vs X hlk);rw [hst] at hy;have hlX:w.heap.size+1<X.heap.size:=(Array.getElem?_eq_some_iff.1 hl).1;refine ⟨fn,_,assign,body,hy,roundIn_of_wpIn hfn (wpIn_mono (hround (w.heap.size+1) k vs X hk (by omega) hlX hj hlk) ?_)⟩;rintro e a' Wa hp;cases e with
   | normal=>
    obtain ⟨hr,hb⟩:=hp;have hla:=hr.recs.same _ _ (by omega) hl rfl;have hda:=hr.recs.same _ _ (Nat.le_refl _) hd rfl;have hlt:w.heap.size+1<Wa.heap.size:=(Array.getElem?_eq_some_iff.1 hla).1;refine ⟨_,run_beginRound hla (by rw [hst]),wpIn_mono (hb _ (.loop { st .ready none with state:=.busy }) hla rfl rfl) ?_⟩;rintro e2 a2 Y ⟨rfl,hr2,hj2⟩;have hl2:=hr2.recs.same _ _ (by omega) (World.putObj_heap_same (o:=.loop { st .ready none with state:=.busy }) hlt) rfl;have hd2:=hr2.recs.same _ _ (Nat.le_refl _) ((World.putObj_heap_other (o:=.loop { st .ready none with state:=.busy }) (by omega)).trans hda) rfl;have hend:=run_endRound (P:=P) none hl2;rw [hst] at hend;refine ⟨_,_,hend,rfl,⟨hJp _ _ _ _ _ hj2 hl2 rfl (by omega),?_,(World.putObj_heap_other (by omega)).trans hd2⟩,?_⟩
    ·rw [hst];exact World.putObj_heap_same (Array.getElem?_eq_some_iff.1 hl2).1
    ·exact (hr.kp.trans (Y0.mono (λ i _ e=>.inr (by have e' : i=w.heap.size+1:=e;omega))) (λ _ _ e=>e)).trans (hr2.kp.trans (Y0.mono (λ i _ e=>.inr (by have e' : i=w.heap.size+1:=e;omega))) (λ _ _ e=>e)) (λ _ _ e=>e)
   | _=>exact hp.elim
end
def FarR (w:World) (q:Nat):Prop:=∃ c,w.heap[q]? = some (.cells c 212 (0,0))
theorem FarR.no_sig {sv:Value} (h:FarR w k) (hs:Yc w b L sv mr):¬ Foot b sv mr k:=by
 obtain ⟨c,h⟩:=h;rintro (e | e | e)
 ·have hb:=hs.blk
  rw [<- e,h] at hb;cases hb
 ·obtain ⟨c', this⟩:=Yb hs.row e
  rw [h] at this;cases this
 ·subst e
  obtain ⟨n,D,hm,_⟩:=hs.map;obtain ⟨es,clock,this,_⟩:=hm;rw [h] at this;cases this
theorem X6.keptR {vs:List Value} (h:X6 w b bs L R lv vs) (hk:Zc (λ k=>k=A) w w') (hA:FarR w A):X6 w' b bs L R lv vs:=by
 have no:∀ k,(λ k=>k=A) k->FarR w k:=λ k e=>by have e' : k=A:=e;rw [e'];exact hA
 refine ⟨hk.at h.blk (λ e=>by obtain ⟨c,h2⟩:=no _ e;rw [h.blk] at h2;cases h2),?_,hk.row h.row (λ q e s=>by obtain ⟨c,hc⟩:=Yb h.row e;obtain ⟨c2,h2⟩:=no _ s;rw [hc] at h2;cases h2),h.own.kept hk (λ k s cur hc=>by obtain ⟨c2,h2⟩:=no _ s;rw [hc] at h2;cases h2),h.le,h.ok⟩;obtain ⟨⟨sv,mr,h1,h2⟩,h3⟩:=h.sig;exact ⟨⟨sv,mr,h1.kept hk (λ k e s=>(no k s).no_sig h1 e),λ k e=>Nat.lt_of_lt_of_le (h2 k e) hk.size⟩,h3⟩
theorem Zjk {vs:List Value} (hst:X6 w b bs L R lv vs) (hA:FarR w A) (hwx:Za w wx) (hbx:wx.cell? ⟨Bn,0,none⟩=some (.pointer (some ⟨b,0,none⟩))) (hn:1<=n) :
  Zw3 Fence.wide n prog 80 #[.pointer (some ⟨Bn,0,none⟩)] A w.heap.size R.length (RuLk R) wx:=by
 intro l J W hW hJ hY h0;have hFn:∀ k,Fence.wide.fn k:=λ _=>trivial;have KW:Zc (λ q=>q=A) w W:=(hwx.trans' hW).mono (λ _ _ f=>f.elim);have s1:W.cell? ⟨Bn,0,none⟩=some (.pointer (some ⟨b,0,none⟩)):=(hW.cell (p:=⟨Bn,0,none⟩) (World.block_lt_of_cell? _ _ hbx) (λ f=>f)).trans hbx;obtain ⟨ro,rc,rfl,hrd⟩:=hst.read;have hle:=hst.le
 have ST:Hid (∀ X,Zc (λ q=>q=A) w X->X.cell? ⟨b,1,none⟩=some (.slice ro R.length rc)∧Vh X ro R):=λ X hk=>by
  have h1:=hst.keptR hk hA;obtain ⟨ro', rc', e,h2⟩:=h1.read;simp only [Value.slice.injEq] at e;obtain ⟨rfl,_,rfl⟩:=e;exact ⟨Zb h1.blk 1,h2.rs⟩
 have OK:Hid (∀ x∈R,(0<x.1.length∧x.1.length<=2000)∧0<x.2.length∧x.2.length<=2000):=λ x hx=>Yr (hst.ok x hx);obtain ⟨s2,_⟩:=ST.out W KW;have hpn:∀ ww:World,(binOp .eql 43 (.pointer (some ⟨b,0,none⟩)) (.pointer none)).run prog ww=.ok (.bool false) ww:=λ ww=>by kernel_rfl
 clear hst hrd;refine callsIn_of_wp func80 rfl trivial ?_ rfl;simp only [ntmps80,List.size_toArray,List.length_cons,List.length_nil,Nat.reduceAdd,Nat.reduceSub,Array.replicate_succ,Array.replicate_zero,List.push_toArray,List.append_toArray,List.nil_append,List.cons_append]
 gi_wp2_with fail
 gi_loopw [12] (λ i wr=>∃ k:Nat,k<=R.length∧i=.int .i64 k∧Zc (λ q=>q=A) w wr∧J k wr) (λ i _=>R.length-(intOf i).toNat)
 case atStart=>exact ⟨0,Nat.zero_le _,rfl,KW,h0⟩
 case round=>
  clear s1 s2;obtain ⟨k,hk,rfl,hs,hj⟩:=hrel
  by_cases hlt:k<R.length
  ·obtain ⟨s2,s3⟩:=ST.out wr hs
   obtain ⟨gb,goff,rfl,hgb,ao,ac,bo,bc,r0,r1,A1,A2⟩:=s3.get hlt;have i1:(0:Int)<=(k:Int):=by omega
   have i2:(k:Int)<(R.length:Int):=by omega
   obtain ⟨⟨p1,m1⟩,p2,m2⟩:=OK.out R[k] (List.getElem_mem hlt);obtain ⟨wa,hwa⟩:∃ wa,wa=wr.alloc (.cells #[.slice ao R[k].1.length ac,.slice bo R[k].2.length bc] 90):=⟨_,rfl⟩;have ka:Za wr wa:=by rw [hwa];exact Zal9
   have hx:wa.heap[wr.heap.size]? = some (.cells #[.slice ao R[k].1.length ac,.slice bo R[k].2.length bc] 90 (0,0)):=by rw [hwa];exact heap_alloc_new _ _
   have y0:=Zb hx 0;have y1:=Zb hx 1;simp only [List.getElem?_toArray,List.getElem?_cons_zero,List.getElem?_cons_succ] at y0 y1;have CC:=(callsIn_wide (n:=n-1)).2 (Zav (ac:=ac) (bc:=bc) (x:=R[k]) (A1.same ka).at' (A2.same ka).at' p1 p2 m1 m2);have HYY:Hid (∀ X vs,J k X->RuLk R k vs X->YieldAt Fence.wide (n-1) prog l vs X λ e Y=>e=.returned (.bool true)∧J (k+1) Y∧Zc (λ i=>i=A∨w.heap.size<=i) X Y):=λ X vs h1 h2=>hY k vs X hlt h1 h2;have HJJ:Hid (∀ X,Za wr X->J k X):=λ X h1=>hJ k wr X hj h1
   gi_wp2_with (gi_at_call 81;rw [<- hwa];refine CC.mono ?_;rintro e w3 ⟨g,c,g', c', rfl,t1,t2, -, -, -,k3⟩;obtain ⟨fn,tmps,asg,bdy,hy,hR⟩:=HYY.out w3 _ (HJJ.out w3 (ka.trans' k3)) ⟨hlt,g,c,g', c', rfl,t1,t2⟩)
   refine hR.mono ?_;rintro e w4 ⟨rfl,hj4,hb4⟩;have hs4:Zc (λ q=>q=A) w w4:=Zc.trans (Zc.trans hs (ka.trans' k3) (λ _ _ f=>f.elim)) hb4 (λ i hi e=>by rcases e with e | e;exact e;omega);clear hR hy HYY HJJ CC y0 y1 hx t1 t2
   gi_wp2_with fail
   go_roundw
   case rel=>exact ⟨k+1,by omega,by go_num,hs4,hj4⟩
   case measure=>simp [intOf];omega
  ·obtain rfl:k=R.length:=by omega
   gi_wp2_with fail
   go_end0
   exact ⟨⟨_,rfl⟩,hj⟩
end
section
open Go.RowKit
attribute [local go_sem ↓] Go.wp_at_zero Go.wp_at_succ
theorem nm10_z:X0 ⟨#[122]⟩=true:=by decide +kernel
theorem nm10_s:X0 ⟨#[115]⟩=true:=by decide +kernel
theorem Zwm:X0 ⟨#[97,100,100]⟩=true:=by decide +kernel
theorem yeq0 (w:World):(binOp .eql 46 .nilIface .nilIface).run prog w=.ok (.bool true) w:=by kernel_rfl
theorem Zwv (h:Zaq w y sp V L R) :
  Calls prog 16 #[.pointer (some ⟨y,0,none⟩)] w λ e w' => ∃ b' w1,e=.returned (.pointer (some ⟨b', 0,none⟩))∧b' < w'.heap.size∧Za w w1∧Zh7 w1 L b' w' := by
 have hpn:=Zis;have c0:=Zb h.blk 0;simp only [List.getElem?_toArray,List.getElem?_cons_zero] at c0;have C1:=J6 h.g;clear h
 go_enter func16,ntmps16
 go_wp2_with (first
  | (go_at_call 41;refine C1.mono ?_;rintro e w2 ⟨p,bs,lv,vs,rfl,hst,k2⟩;have C2:=Zbp hst)
  | (go_at_call 47;refine C2.mono ?_;rintro e w3 ⟨b', rfl,hb,hc⟩))
 go_ret;exact ⟨b', w2,rfl,hb,k2,hc⟩
theorem Zoh (h:Zaq w y sp V L R) :
  Calls prog 18 #[.pointer (some ⟨y,0,none⟩)] w λ e w' => ∃ b' bs' lv' vs', e=.returned (.pointer (some ⟨b', 0,none⟩))∧X6 w' b' bs' L R lv' vs' ∧ w.heap.size<=b' ∧ w.heap.size<=bs' ∧ (∀ q,lv'.ownBlock=some q->w.heap.size<=q)∧Za w w' := by
 have hpn:=Zis;have c0:=Zb h.blk 0;simp only [List.getElem?_toArray,List.getElem?_cons_zero] at c0;have C1:=J6 h.g;clear h
 go_enter func18,ntmps18
 go_wp2_with (first
  | (go_at_call 41;refine C1.mono ?_;rintro e w2 ⟨p,bs,lv,vs,rfl,hst,k2⟩;have C2:=Ziz hst)
  | (go_at_call 42;refine C2.mono ?_;rintro e w3 ⟨b', bs', lv', vs', rfl,h1,h2,h3,h4,k3⟩))
 go_ret;have:=k2.size;exact ⟨b', bs', lv', vs', rfl,h1,by omega,by omega,λ q e=>by have:=h4 q e;omega,k2.trans' k3⟩
end
section
open Go.RowKit Go.Shelf
attribute [local go_sem] Oper.semAt_some
theorem Zkg:∀ (t:List Int),(∀ x∈t,0<=x)->vs [] t=[]
 | [],_=>rfl
 | x :: r,h=>by
  have hx:=h x (List.mem_cons_self ..);have e:vs [] (x :: r)=vs (Y1 [] x) r:=rfl;have ev:Y1 [] x=[]:=by unfold Y1;rw [if_neg (λ q=>by have:=q.1;simp [isV] at this;omega)]
  rw [e,ev];exact Zkg r (λ y hy=>h y (List.mem_cons_of_mem _ hy))
def Kn (w:World) (vs:List Value) (l:List Ru):Prop:=
 vs.length=l.length * 3∧∀ i (h:i<l.length),∃ g c g' c', vs[i * 3]? = some (.slice (some ⟨g,0,none⟩) l[i].1.length c)∧vs[i * 3+1]? = some (.slice (some ⟨g', 0,none⟩) l[i].2.length c')∧vs[i * 3+2]? = some (.int .i64 (i:Int))∧Yu w g c l[i].1∧Yu w g' c' l[i].2
theorem Kn.kept {vs:List Value} {S:Nat->Prop} (h:Kn w vs l) (hk:Zc S w w') (hS:∀ k,S k->∀ cur,w.heap[k]? ≠ some (.cells cur 3 (0,0))):Kn w' vs l:=
 ⟨h.1,λ i hi=>by
  obtain ⟨g,c,g', c', h1,h2,h3,h4,h5⟩:=h.2 i hi
  exact ⟨g,c,g', c', h1,h2,h3,h4.kept hk hS,h5.kept hk hS⟩⟩
theorem Kn.same {vs:List Value} (h:Kn w vs l) (hk:Za w w'):Kn w' vs l:=h.kept hk (λ _ f=>f.elim)
theorem Kn.more {vs:List Value} {x:Ru} (h:Kn w vs l) (t1:Yu w g c x.1) (t2:Yu w g' c' x.2):Kn w (vs ++ [.slice (some ⟨g,0,none⟩) x.1.length c,.slice (some ⟨g', 0,none⟩) x.2.length c', .int .i64 (l.length:Int)]) (l ++ [x]):=by
 refine ⟨by simp [h.1];omega,λ i hi=>?_⟩
 by_cases hl:i<l.length
 ·rw [List.getElem_append_left hl,List.getElem?_append_left (by rw [h.1];omega),List.getElem?_append_left (by rw [h.1];omega),List.getElem?_append_left (by rw [h.1];omega)]
  exact h.2 i hl
 ·obtain rfl:i=l.length:=by simp at hi;omega
  rw [List.getElem_append_right (by omega),List.getElem?_append_right (by rw [h.1];omega),List.getElem?_append_right (by rw [h.1];omega),List.getElem?_append_right (by rw [h.1];omega)];have e1:l.length * 3-vs.length=0:=by rw [h.1];omega
  have e2:l.length * 3+1-vs.length=1:=by rw [h.1];omega
  have e3:l.length * 3+2-vs.length=2:=by rw [h.1];omega
  rw [e1,e2,e3];simp only [Nat.sub_self,List.getElem_cons_zero];exact ⟨g,c,g', c', rfl,rfl,rfl,t1,t2⟩
theorem Zwp {vs:List Value} (hr:w.ownsRow base 144 3 v N vs) (hc:Kn w vs l):∃ ro rc,v=.slice ro l.length rc∧Zw4 w ro l∧∀ q,ro=some q->base<=q.block:=by
 have hN:N=l.length:=by have:=hr.1;rw [hc.1] at this;omega
 subst hN
 rcases hr.2 with ⟨rfl,h0⟩ | ⟨g,cap,cur,rfl,_,hg,_,_,_,ht⟩
 ·exact ⟨none,0,by rw [h0],.inl (List.eq_nil_of_length_eq_zero h0),λ q e=>by cases e⟩
 ·refine ⟨_,cap,rfl,.inr ⟨g,rfl,Zi hg,λ i hi=>?_⟩,λ q e=>by cases e;exact Jq hr rfl⟩
  obtain ⟨a,b,a', b', h1,h2,h3,h4,h5⟩:=hc.2 i hi;have q1:=hr.cells (g:=g) rfl _ _ h1;have q2:=hr.cells (g:=g) rfl _ _ h2;have q3:=hr.cells (g:=g) rfl _ _ h3;rw [Xb] at q1 q2 q3;exact ⟨a,b,a', b', by rw [<- q1];congr 2;omega,by rw [<- q2];congr 2;omega,by rw [<- q3];congr 2;omega,h4,h5⟩
structure ClJ (R:List Ru) (w:World) (A B bs:Nat) (tv:Value) (k:Nat) (W:World):Prop where
 same:Za w W
 ptr:W.heap[A+1]? = some (.cells #[.pointer (some ⟨A,0,none⟩)] 142 (0,0))
 row:∃ v cs,W.heap[A]? = some (.cells #[.pointer (some ⟨bs,0,none⟩),v,tv] 212 (0,0))∧W.ownsRow B 144 3 v k cs∧Kn W cs (R.take k)
section
variable {R : List Ru} {w : World} {A B bs : Nat} {tv : Value} {k : Nat} {W W' : World}
theorem ClJ.up (h:ClJ R w A B bs tv k W) (hk:Za W W'):ClJ R w A B bs tv k W' := by
 obtain ⟨h1,h2,v,cs,h3,h4,h5⟩:=h;exact ⟨h1.trans' hk,hk.at0 h2,v,cs,hk.at0 h3,hk.row h4 (λ _ _ f=>f),h5.same hk⟩
theorem ClJ.put {l:Nat} (h:ClJ R w A B bs tv k W) (hl:W.heap[l]? = some o) (ho:o.isCells=false) (hw:w.heap.size<=l):ClJ R w A B bs tv k (W.putObj l o'):=by
 obtain ⟨h1,h2,v,cs,h3,h4,h5⟩:=h;have kk:Zc (λ k=>k=l) W (W.putObj l o'):=Y0;have no:∀ cur t fr,W.heap[l]? ≠ some (.cells cur t fr):=λ cur t fr e=>by rw [hl] at e;cases e;cases ho
 refine ⟨Zc.trans h1 kk (λ i hi e=>by have e' : i=l:=e;omega),Yg hl ho h2 rfl,v,cs,Yg hl ho h3 rfl,kk.row h4 (λ q e e2=>?_),h5.kept kk (λ q e=>?_)⟩
 ·obtain ⟨cur,hc⟩:=Zu h4 e
  have e3:q=l:=e2;rw [e3] at hc;exact no _ _ _ hc
 ·have e3:q=l:=e
  rw [e3];exact λ cur=>no _ _ _
theorem ClJ.more (hA:w.heap.size<=A) (hBw:w.heap.size<=B) (j1:Za w W) (j2:W.heap[A+1]? = some (.cells #[.pointer (some ⟨A,0,none⟩)] 142 (0,0))) {cs:List Value} (j3:W.heap[A]? = some (.cells #[.pointer (some ⟨bs,0,none⟩),v,tv] 212 (0,0))) (j4:W.ownsRow B 144 3 v k cs) (j5:Kn W cs (R.take k)) (hk:k<R.length) (t1:Yu W g c R[k].1) (t2:Yu W g' c' R[k].2)
  (hr:w1.ownsRow B 144 3 v' (k+1) (cs ++ [.slice (some ⟨g,0,none⟩) R[k].1.length c,.slice (some ⟨g', 0,none⟩) R[k].2.length c', .int .i64 (k:Int)])) (hkp:Zc (λ q=>v.ownBlock=some q) W w1) :
  w1.heap[A]? = some (.cells #[.pointer (some ⟨bs,0,none⟩),v,tv] 212 (0,0))∧ClJ R w A B bs tv (k+1) (w1.setCell ⟨A,1,none⟩ v')∧Zuh D A B W (w1.setCell ⟨A,1,none⟩ v'):=by
 have ty:∀ q,v.ownBlock=some q->∃ cur,W.heap[q]? = some (.cells cur 144 (0,0)):=λ q e=>Zu j4 e;have n3:¬ v.ownBlock=some A:=λ e=>by obtain ⟨cur,hc⟩:=ty _ e;rw [j3] at hc;cases hc
 have n2:¬ v.ownBlock=some (A+1):=λ e=>by obtain ⟨cur,hc⟩:=ty _ e;rw [j2] at hc;cases hc
 have b3:=hkp.at j3 n3;have b2:=hkp.at j2 n2;have ks:=Yh w1 A 1 v';have kk:Zc (λ q=>v.ownBlock=some q∨q=A) W (w1.setCell ⟨A,1,none⟩ v'):=Zc.trans (hkp.mono (λ _ _ e=>.inl e)) ks (λ _ _ e=>.inr e)
 have e1:R.take (k+1)=R.take k ++ [R[k]]:=by
  rw [List.take_add_one,List.getElem?_eq_getElem hk];rfl
 have hlk:(R.take k).length=k:=by rw [List.length_take];omega
 refine ⟨b3,⟨Zc.trans j1 kk (λ i hi e=>?_),ks.at b2 (λ e=>by have e' : A+1=A:=e;omega),v', _,by rw [Zt b3];rfl,ks.row hr (λ q e e2=>?_),?_⟩,Zuh.of kk (λ q e=>?_) (λ q e=>?_)⟩
 ·rcases e with e | e
  ·have:=Jq j4 e;omega
  ·omega
 ·have e3:q=A:=e2
  rw [e3] at e;obtain ⟨cur,hc⟩:=Zu hr e;rw [b3] at hc;cases hc
 ·rw [e1]
  have:=j5.more t1 t2;rw [hlk] at this;refine this.kept kk (λ q e=>?_)
  rcases e with e | e
  ·obtain ⟨cur,hc⟩:=ty q e
   exact λ cur' h=>(by rw [hc] at h;cases h)
  ·rw [e]
   exact λ cur' h=>(by rw [j3] at h;cases h)
 ·rcases e with e | e
  ·obtain ⟨cur,hc⟩:=ty q e
   exact ⟨_,_,_,hc⟩
  ·rw [e];exact ⟨_,_,_,j3⟩
 ·rcases e with e | e
  ·exact .inr (Jq j4 e)
  ·exact .inl e
end
theorem Zvd {sv:Value} {c:Array Value} (h:w.heap[k]? = some (.cells c 144 (0,0))) (hs:Yc w b L sv mr):¬ Foot b sv mr k:=by
 rintro (e | e | e)
 ·have hb:=hs.blk
  rw [<- e,h] at hb;cases hb
 ·obtain ⟨c', this⟩:=Yb hs.row e
  rw [h] at this;cases this
 ·subst e
  obtain ⟨n,D,hm,_⟩:=hs.map;obtain ⟨es,clock,this,_⟩:=hm;rw [h] at this;cases this
theorem Zcu.keptM {rc:Nat} {m:Nat} {c:Array Value} (h:Zcu w b bs ro rc tto tc L R T) (hk:Zc (λ q=>q=m) w w') (hm:w.heap[m]? = some (.cells c 144 (0,0))) (hro:∀ q,ro=some q->q.block≠m) (hT:Arg w' tto T tc):Zcu w' b bs ro rc tto tc L R T:=by
 have no:∀ k,(λ q=>q=m) k->∀ cur,w.heap[k]? ≠ some (.cells cur 3 (0,0)):=λ k e cur hc=>by
  have e' : k=m:=e;rw [e', hm] at hc;cases hc
 refine ⟨hk.at h.blk (λ e=>by have e' : b=m:=e;have:=h.blk;rw [e', hm] at this;cases this),?_,?_,hT,h.good,h.ok,h.cl⟩
 ·obtain ⟨⟨sv,mr,h1,h2⟩,h3⟩:=h.sig
  exact ⟨⟨sv,mr,h1.kept hk (λ k e s=>by have e' : k=m:=s;rw [e'] at e;exact Zvd hm h1 e),λ k e=>Nat.lt_of_lt_of_le (h2 k e) hk.size⟩,h3⟩
 ·rcases h.rs with e | ⟨q,h1,h2,h3⟩
  ·exact .inl e
  ·have hq:¬ q=m:=hro _ h1
   refine .inr ⟨q,h1,Nat.lt_of_lt_of_le h2 hk.size,λ i hi=>?_⟩;obtain ⟨g,c1,g', c1', a1,a2,a3,a4,a5⟩:=h3 i hi;exact ⟨g,c1,g', c1', (hk.cell (p:=⟨q,i * 3,none⟩) h2 hq).trans a1,(hk.cell (p:=⟨q,i * 3+1,none⟩) h2 hq).trans a2,(hk.cell (p:=⟨q,i * 3+2,none⟩) h2 hq).trans a3,a4.kept hk no,a5.kept hk no⟩
theorem Zgr:(prog.info? 144).map (λ i=>(i.zero,i.size,i.bytes))=some (some (.agg #[.slice none 0 0,.slice none 0 0,.int .i64 0]),3,56):=by kernel_rfl
theorem Zac (h:Zaq w y sp V L R) (hg:GoodR L R) (hT:Arg w tto T tc) (hc:Zd L T=0) (hcl:∀ x∈T,0<=x) :
  Calls prog 64 #[.pointer (some ⟨y,0,none⟩),.slice tto T.length tc] w λ e w' => ∃ b bs ro rc,e=.returned (.tuple #[.pointer (some ⟨b,0,none⟩),.nilIface])∧Zcu w' b bs ro rc tto tc L R T∧Za w w' ∧ ∀ q,ro=some q->w.heap.size<=q.block:=by
 have hFn:∀ k,Fence.wide.fn k:=λ _=>trivial;have hpn:=Zis;have h2000:=(Ze.1 hc).1;have hvr:Zx T=[]:=Zkg T hcl;have hars:=h.g.ars;have hle:=hg.1;have CS:=(callsIn_wide (n:=8)).2 (Zwv h)
 have CC:Hid (∀ w2 b' w1,Za w w1->Zh7 w1 L b' w2->Sg w2.heap.size w2 b' L∧Za w w2∧CallsIn Fence.wide 8 prog 104 #[.pointer (some ⟨b', 0,none⟩),.slice tto T.length tc] w2 λ e w' => e=.returned (.int .i64 0)∧Za w2 w'):=λ w2 b' w1 k1 hcp=>by
  obtain ⟨sv,mr,hs,_,k2⟩:=hcp;have hsg:Sg w2.heap.size w2 b' L:=⟨⟨sv,mr,hs,Ja hs⟩,hars⟩;have:=Xn (cap:=tc) hsg (hT.at'.same (k1.trans' k2)) (by unfold maxLen;omega);rw [hc] at this;exact ⟨hsg,k1.trans' k2,callsIn_wide.2 this⟩
 have CV:Hid (∀ w3,Za w w3->CallsIn Fence.wide 8 prog 105 #[.slice tto T.length tc] w3 λ e w' => ∃ vo vc,e=.returned (.slice vo 0 vc)∧Za w3 w'):=λ w3 k3=>by
  have:=Zjr (cap:=tc) (hT.at'.same k3) (by omega);rw [hvr] at this;refine callsIn_wide.2 (this.mono ?_);rintro e w' ⟨v,rfl,hr,hk⟩;obtain ⟨vo,vc,rfl⟩:=Zf hr;exact ⟨vo,vc,rfl,hk⟩
 have CR:Hid (∀ w5,Za w w5->CallsIn Fence.wide 8 prog 18 #[.pointer (some ⟨y,0,none⟩)] w5 λ e w' => ∃ b' bs' lv' vs', e=.returned (.pointer (some ⟨b', 0,none⟩))∧X6 w' b' bs' L R lv' vs' ∧ Za w5 w'):=λ w5 k5=>callsIn_wide.2 ((Zoh (h.same k5)).mono (by rintro e w' ⟨b', bs', lv', vs', e1,e2,_,_,_,e3⟩;exact ⟨b', bs', lv', vs', e1,e2,e3⟩));have HTm:Hid (∀ ww,Za w ww->Arg ww tto T tc):=λ ww hk=>hT.same hk;clear h hT hvr;refine (callsIn_wide (n:=9)).1 ?_;refine callsIn_of_wp_marks func64 rfl trivial ?_ rfl;simp only [ntmps64,List.size_toArray,List.length_cons,List.length_nil,Nat.reduceAdd,Nat.reduceSub,Array.replicate_succ,Array.replicate_zero,List.push_toArray,List.append_toArray,List.nil_append,List.cons_append]
 gi_upto_region 9 with (first
  | (gi_at_call 16;refine CS.mono ?_;rintro e w2 ⟨bs,w1,rfl,_,k1,hcp⟩;obtain ⟨hsg,k2,C2⟩:=CC.out w2 bs w1 k1 hcp)
  | (gi_at_call 104;refine C2.mono ?_;rintro e w3 ⟨rfl,k3⟩;have k30:=k2.trans' k3;have C3:=CV.out w3 k30)
  | (gi_at_call 105;refine C3.mono ?_;rintro e w4 ⟨vo,vc,rfl,k4⟩))
 have K4:Za w w4:=k30.trans' k4;have HSG:Hid (∀ X,Za w2 X->Sg X.heap.size X bs L):=λ X hk=>Zbs (hsg.same hk) hk.size;have k24:Za w2 w4:=k3.trans' k4;clear CS CC C2 CV C3 hcp hsg k1 k3 k30 k4;obtain ⟨W1,hW1⟩:∃ W1,W1=(w4.alloc (.cells #[.pointer (some ⟨bs,0,none⟩),.slice none 0 0,.slice tto T.length tc] 212)).alloc (.cells #[.pointer (some ⟨w4.heap.size,0,none⟩)] 142):=⟨_,rfl⟩;have K1:Za w4 W1:=by rw [hW1];exact ((Zc.refl _ w4).alloc _).alloc _
 have z1:W1.heap.size=w4.heap.size+1+1:=by rw [hW1];simp
 have a0:W1.heap[w4.heap.size]? = some (.cells #[.pointer (some ⟨bs,0,none⟩),.slice none 0 0,.slice tto T.length tc] 212 (0,0)):=by rw [hW1];exact heap_alloc2_old _ _ _
 have a1:W1.heap[w4.heap.size+1]? = some (.cells #[.pointer (some ⟨w4.heap.size,0,none⟩)] 142 (0,0)):=by rw [hW1];exact Zo _ _ _
 have C5:=CR.out W1 (K4.trans' K1);clear CR
 gi_upto_region 10 with fail
 rw [<- hW1];clear hW1
 gi_wp2_with (first
  | (gi_at_call 18;refine C5.mono ?_;rintro e w5 ⟨p,ps,lv,vs,rfl,hst,k5'⟩;have k5:Za W1 w5:=k5')
  | (gi_at_call 45;refine (Zhu Fence.wide _ trivial rfl _ _).mono ?_;rintro e w' ⟨rfl,rfl⟩))
 obtain ⟨W0,hW0⟩:∃ W0,W0=w5.alloc (.cells #[.pointer (some ⟨p,0,none⟩)] 43):=⟨_,rfl⟩;have K0:Za w5 W0:=by rw [hW0];exact Zal9
 have b2:W0.cell? ⟨w5.heap.size,0,none⟩=some (.pointer (some ⟨p,0,none⟩)):=by rw [hW0];exact Zb (heap_alloc_new _ _) 0
 have KA:Za w4 W0:=(K1.trans' k5).trans' K0;have z0:w4.heap.size<=W0.heap.size:=KA.size;have START:ClJ R w4 w4.heap.size w5.heap.size bs (.slice tto T.length tc) 0 W0:=⟨KA,(k5.trans' K0).at0 a1,.slice none 0 0,[],(k5.trans' K0).at0 a0,World.ownsRow_nil _ _ _ _,⟨rfl,λ i hi=>absurd hi (by simp)⟩⟩;have hlen:∀ x∈R,x.1.length<=2000∧x.2.length<=2000:=λ x hx=>⟨(Yr (hst.ok x hx)).1.2,(Yr (hst.ok x hx)).2.2⟩;have HH:=Zjk (n:=8) (A:=w4.heap.size) hst ⟨_,k5.at0 a0⟩ K0 b2 (by omega);have zz5:w5.heap.size<=W0.heap.size:=K0.size;have hz5:w4.heap.size<=w5.heap.size:=(K1.trans' k5).size;rw [<- hW0];clear hW0 a0 a1 C5 hst b2
 refine Zs2 rfl (by omega) (gf:=80) (lb:=#[.pointer (some ⟨w5.heap.size,0,none⟩)]) rfl trivial (enters_of func80 (by kernel_rfl) rfl) (A:=w4.heap.size) (B:=w5.heap.size) (by omega) HH (λ k vs W h=>by obtain ⟨_,_,_,_,_,rfl,_⟩:=h;rfl)
  (λ k W=>ClJ R w4 w4.heap.size w5.heap.size bs (.slice tto T.length tc) k W) (λ k X Y h hk=>h.up hk) (λ k X l o o' h hl ho hw=>h.put hl ho (by omega)) START ?round ?done
 case done=>
  rintro D W hD hj hK;have ptr0:=Zb hj.ptr 0;simp only [List.getElem?_toArray,List.getElem?_cons_zero] at ptr0;obtain ⟨j1,j2,v,cs,j3,j4,j5⟩:=hj.put (o' := .deferred none) hK rfl (by omega);rw [List.take_of_length_le (Nat.le_refl _)] at j5;obtain ⟨ro,rc,rfl,hnu,hlow⟩:=Zwp j4 j5;have KF:Za w (W.putObj D (.deferred none)):=K4.trans' j1;have HF:Hid (Zcu (W.putObj D (.deferred none)) w4.heap.size bs ro rc tto tc L R T∧Za w (W.putObj D (.deferred none))∧∀ q,ro=some q->w.heap.size<=q.block):=⟨⟨j3,HSG.out _ (k24.trans' j1),hnu,HTm.out _ KF,hg,hc,hcl⟩,KF,λ q e=>by have:=hlow q e;have:=K4.size;omega⟩;clear j1 j2 j3 j4 j5 hnu hlow hj START HH HSG HTm KF
  gi_wp2_with fail
  refine ⟨by simp,.inl ⟨_,_,rfl,run_takeDeferred hK,?_⟩⟩;exact ⟨.tuple #[.pointer (some ⟨w4.heap.size,0,none⟩),.nilIface],by simp [results,results64,go_sem],w4.heap.size,bs,ro,rc,rfl,HF.out⟩
 case round=>
  rintro l k vs W hk hl hlW hj ⟨hk', g,c,g', c', rfl,t1,t2⟩;obtain ⟨Wa,hWa⟩:∃ Wa,Wa=W.alloc (.cells #[.slice (some ⟨g,0,none⟩) R[k].1.length c,.slice (some ⟨g', 0,none⟩) R[k].2.length c'] 90):=⟨_,rfl⟩;have ka:Za W Wa:=by rw [hWa];exact Zal9
  have bx:Wa.heap[W.heap.size]? = some (.cells #[.slice (some ⟨g,0,none⟩) R[k].1.length c,.slice (some ⟨g', 0,none⟩) R[k].2.length c'] 90 (0,0)):=by rw [hWa];exact heap_alloc_new _ _
  have hjs:=hj.same.size
  gi_wp2_with fail
  rw [<- hWa];clear hWa START HH HSG HTm;refine ⟨Zuh.same ka,λ o o' ho hoc hoc' => ?_⟩;have hpk:Zc (λ q=>q=l) Wa (Wa.putObj l o'):=Y0
  have no:∀ q,(λ q=>q=l) q->∀ cur,Wa.heap[q]? ≠ some (.cells cur 3 (0,0)):=λ q e cur hc=>by
   have e' : q=l:=e;rw [e', ho] at hc;cases hc;cases hoc
  have hjb:=(hj.up ka).put (o' := o') ho hoc (by omega);have t1b:=(t1.same ka).kept hpk no;have t2b:=(t2.same ka).kept hpk no;have bxb:=Yg (o' := o') ho hoc bx rfl;have lob:(Wa.putObj l o').heap[l]? = some o' := World.putObj_heap_same (Zi ho);obtain ⟨Wb,hWb⟩:∃ Wb,Wb=Wa.putObj l o' := ⟨_,rfl⟩;rw [<- hWb] at hjb t1b t2b bxb lob ⊢;have hzb:W0.heap.size<=Wb.heap.size:=by have:=Zi lob;omega
  clear hWb hpk no ho t1 t2 bx hj;obtain ⟨j1,j2,v,cs,j3,j4,j5⟩:=hjb;obtain ⟨ro,rc,rfl⟩:=Zf j4;have kd:Za Wb Wb.drew:=(Zc.refl _ _).drew;have SS:Hid (∀ ww,Za Wb.drew ww->ww.cell? ⟨w4.heap.size+1,0,none⟩=some (.pointer (some ⟨w4.heap.size,0,none⟩))∧ww.cell? ⟨W.heap.size,0,none⟩=some (.slice (some ⟨g,0,none⟩) R[k].1.length c)∧ww.cell? ⟨W.heap.size,1,none⟩=some (.slice (some ⟨g', 0,none⟩) R[k].2.length c')):=λ ww hk9=>⟨Zb ((kd.trans' hk9).at0 j2) 0,Zb ((kd.trans' hk9).at0 bxb) 0,Zb ((kd.trans' hk9).at0 bxb) 1⟩;have ROW:Hid (∀ ww,Za Wb.drew ww->ww.cell? ⟨w4.heap.size,1,none⟩=some (.slice ro k rc)∧ww.ownsRow w5.heap.size 144 3 (.slice ro k rc) k cs):=λ ww hk9=>⟨Zb ((kd.trans' hk9).at0 j3) 1,(kd.trans' hk9).row j4 (λ _ _ f=>f)⟩
  have MORE:Hid (∀ w1 v', w1.ownsRow w5.heap.size 144 3 v' (k+1) (cs ++ [.slice (some ⟨g,0,none⟩) R[k].1.length c,.slice (some ⟨g', 0,none⟩) R[k].2.length c', .int .i64 (k:Int)])->Zc (λ q=>(Value.slice ro k rc).ownBlock=some q) Wb w1->(w1.cell? ⟨w4.heap.size,1,none⟩=some (.slice ro k rc)∧w1.frozen? ⟨w4.heap.size,1,none⟩=false)∧Hid (ClJ R w4 w4.heap.size w5.heap.size bs (.slice tto T.length tc) (k+1) (w1.setCell ⟨w4.heap.size,1,none⟩ v')∧Zuh W0.heap.size w4.heap.size w5.heap.size Wb (w1.setCell ⟨w4.heap.size,1,none⟩ v'))∧(w1.cell? ⟨w4.heap.size+1,0,none⟩=some (.pointer (some ⟨w4.heap.size,0,none⟩))∧w1.cell? ⟨W.heap.size,0,none⟩=some (.slice (some ⟨g,0,none⟩) R[k].1.length c)∧w1.cell? ⟨W.heap.size,1,none⟩=some (.slice (some ⟨g', 0,none⟩) R[k].2.length c'))∧((w1.setCell ⟨w4.heap.size,1,none⟩ v').cell? ⟨w4.heap.size+1,0,none⟩=some (.pointer (some ⟨w4.heap.size,0,none⟩))∧(w1.setCell ⟨w4.heap.size,1,none⟩ v').cell? ⟨W.heap.size,0,none⟩=some (.slice (some ⟨g,0,none⟩) R[k].1.length c)∧(w1.setCell ⟨w4.heap.size,1,none⟩ v').cell? ⟨W.heap.size,1,none⟩=some (.slice (some ⟨g', 0,none⟩) R[k].2.length c'))):=λ w1 v' h1 h2=>by
   obtain ⟨q1,q2,q3⟩:=ClJ.more (D:=W0.heap.size) (Nat.le_refl _) hz5 j1 j2 j3 j4 j5 hk' t1b t2b h1 h2;have nx:¬ (Value.slice ro k rc).ownBlock=some W.heap.size:=λ e=>by obtain ⟨cur,hc⟩:=Zu j4 e;rw [bxb] at hc;cases hc
   have x1:=h2.at bxb nx;have nn:¬ W.heap.size=w4.heap.size:=by have:=j1.size;omega
   have np:¬ (Value.slice ro k rc).ownBlock=some (w4.heap.size+1):=λ e=>by obtain ⟨cur,hc⟩:=Zu j4 e;rw [j2] at hc;cases hc
   have p1:=h2.at j2 np;have ks:=Yh w1 w4.heap.size 1 v';have x2:=ks.at x1 nn;exact ⟨⟨Zb q1 1,Zg q1 1⟩,⟨q2,q3⟩,⟨Zb p1 0,Zb x1 0,Zb x1 1⟩,Zb q2.ptr 0,Zb x2 0,Zb x2 1⟩
  have hzz:w5.heap.size<=Wb.drew.heap.size:=by have:=kd.size;omega
  have S1:=SS.out Wb.drew (Zc.refl _ _);clear j1 j2 j3 j4 j5 t1b t2b bxb lob;generalize R[k].1.length=n1 at *;generalize R[k].2.length=n2 at *
  gi_upto_region 13 with fail
  refine Zb9 (S:=λ ww=>ww.cell? ⟨w4.heap.size+1,0,none⟩=some (.pointer (some ⟨w4.heap.size,0,none⟩))∧ww.cell? ⟨W.heap.size,0,none⟩=some (.slice (some ⟨g,0,none⟩) n1 c)∧ww.cell? ⟨W.heap.size,1,none⟩=some (.slice (some ⟨g', 0,none⟩) n2 c')) (by kernel_rfl) ?hno ?hd S1 ?hw
  case hno=>
   rintro ⟨a9,w9,h9⟩;have h8:Exit.outgrown=Exit.normal:=And.left h9;cases h8
  case hd=>kernel_rfl
  case hw=>
  intro hS0
  change wpAnyH _ _ _ _ _ 13 #[false,false,false,false,false,false,false,false,false,false,false,false,false] _ _
  refine Ya 0 44 (.pointer (some ⟨w4.heap.size,0,none⟩)) rfl rfl ?hs ?hf ?hr ?hQ ?hy ?hS ?_
  case hs=>kernel_rfl
  case hf=>kernel_rfl
  case hr=>kernel_rfl
  case hQ=>exact λ _ _ _ _ h=>h
  case hS=>assumption
  case hy=>exact Or.inl ⟨by rfl,by intro ww hSw;go_simp⟩
  simp only [List.setIfInBounds_toArray,List.set_cons_zero,List.set_cons_succ];refine Ya 1 45 (.pointer (some ⟨w4.heap.size,0,none⟩)) rfl rfl ?hs ?hf ?hr ?hQ ?hy ?hS ?_
  case hs=>kernel_rfl
  case hf=>kernel_rfl
  case hr=>kernel_rfl
  case hQ=>exact λ _ _ _ _ h=>h
  case hS=>assumption
  case hy=>exact Or.inl ⟨by rfl,by intro ww hSw;go_simp⟩
  simp only [List.setIfInBounds_toArray,List.set_cons_zero,List.set_cons_succ];refine Ya 2 46 (.pointer (some ⟨w4.heap.size,0,none⟩)) rfl rfl ?hs ?hf ?hr ?hQ ?hy ?hS ?_
  case hs=>kernel_rfl
  case hf=>kernel_rfl
  case hr=>kernel_rfl
  case hQ=>exact λ _ _ _ _ h=>h
  case hS=>assumption
  case hy=>exact Or.inl ⟨by rfl,by intro ww hSw;go_simp⟩
  simp only [List.setIfInBounds_toArray,List.set_cons_zero,List.set_cons_succ];refine Ya 3 47 (.pointer (some ⟨w4.heap.size,1,none⟩)) rfl rfl ?hs ?hf ?hr ?hQ ?hy ?hS ?_
  case hs=>kernel_rfl
  case hf=>kernel_rfl
  case hr=>kernel_rfl
  case hQ=>exact λ _ _ _ _ h=>h
  case hS=>assumption
  case hy=>exact Or.inl ⟨by rfl,by intro ww hSw;go_simp⟩
  simp only [List.setIfInBounds_toArray,List.set_cons_zero,List.set_cons_succ];refine Ya 5 49 (.agg #[.slice (some ⟨g,0,none⟩) n1 c,.slice (some ⟨g', 0,none⟩) n2 c']) rfl rfl ?hs ?hf ?hr ?hQ ?hy ?hS ?_
  case hs=>kernel_rfl
  case hf=>kernel_rfl
  case hr=>kernel_rfl
  case hQ=>exact λ _ _ _ _ h=>h
  case hS=>assumption
  case hy=>exact Or.inl ⟨by rfl,by intro ww hSw;go_simp⟩
  simp only [List.setIfInBounds_toArray,List.set_cons_zero,List.set_cons_succ];refine Ya 6 50 (.int .i64 (k:Int)) rfl rfl ?hs ?hf ?hr ?hQ ?hy ?hS ?_
  case hs=>kernel_rfl
  case hf=>kernel_rfl
  case hr=>kernel_rfl
  case hQ=>exact λ _ _ _ _ h=>h
  case hS=>assumption
  case hy=>exact Or.inl ⟨by rfl,by intro ww hSw;go_simp⟩
  simp only [List.setIfInBounds_toArray,List.set_cons_zero,List.set_cons_succ];refine Ya 7 51 (.agg #[.slice (some ⟨g,0,none⟩) n1 c,.slice (some ⟨g', 0,none⟩) n2 c', .int .i64 (k:Int)]) rfl rfl ?hs ?hf ?hr ?hQ ?hy ?hS ?_
  case hs=>kernel_rfl
  case hf=>kernel_rfl
  case hr=>kernel_rfl
  case hQ=>exact λ _ _ _ _ h=>h
  case hS=>assumption
  case hy=>exact Or.inl ⟨by rfl,by intro ww hSw;go_simp⟩
  simp only [List.setIfInBounds_toArray,List.set_cons_zero,List.set_cons_succ];obtain ⟨x1,x2⟩:=ROW.out Wb.drew (Zc.refl _ _);have ka9:Za Wb.drew (Wb.drew.alloc (.cells #[.slice (some ⟨g,0,none⟩) n1 c,.slice (some ⟨g', 0,none⟩) n2 c', .int .i64 (k:Int)] 144)):=Zal9;have S2:=SS.out _ ka9;obtain ⟨x3,x4⟩:=ROW.out _ ka9;have x5:((Wb.alloc (.cells #[.slice (some ⟨g,0,none⟩) n1 c,.slice (some ⟨g', 0,none⟩) n2 c', .int .i64 (k:Int)] 144)).drew).cell? ⟨w4.heap.size,1,none⟩=some (.slice ro k rc):=x3;obtain ⟨i0,hi0,hz0,hz1,hz2⟩:=info_parts Zgr;have b1:k+1<=maxLen:=by unfold maxLen;omega
  have b2:(k+1) * 56<=140737488355328:=by omega
  have b3:w5.heap.size<=(Wb.drew.alloc (.cells #[.slice (some ⟨g,0,none⟩) n1 c,.slice (some ⟨g', 0,none⟩) n2 c', .int .i64 (k:Int)] 144)).heap.size:=Nat.le_trans hzz ka9.size;have HON:∀ u∈[Value.slice (some ⟨g,0,none⟩) n1 c,.slice (some ⟨g', 0,none⟩) n2 c', .int .i64 (k:Int)],u.oneCell' = true:=by intro u hu;simp at hu;rcases hu with rfl | rfl | rfl <;> rfl
  refine wpAnyH_ready (rs:=[4,8]) (by kernel_rfl) (by simp) ?_;refine AllReadyH.cons rfl (λ K hK=>?_) (AllReadyH.cons rfl (λ K hK=>?_) AllReadyH.nil)
  ·go_simp
   refine hK.out _ _ S1 (λ hS3=>?_);simp only [List.setIfInBounds_toArray,List.set_cons_zero,List.set_cons_succ];refine wpAnyH_ready (rs:=[8]) (by kernel_rfl) (by simp) ?_;refine AllReadyH.cons rfl (λ K hK=>?_) AllReadyH.nil
   go_simp
   refine hK.out _ _ S2 (λ hS4=>?_);simp only [List.setIfInBounds_toArray,List.set_cons_zero,List.set_cons_succ];refine wpAnyH_ready (rs:=[9]) (by kernel_rfl) (by simp) ?_;refine AllReadyH.cons rfl (λ K hK=>?_) AllReadyH.nil;refine step_append_lies _ rfl _ _ 210 rfl w5.heap.size 144 i0 _ 3 56 underlying210 hi0 hz0 hz1 hz2 rfl (by decide) (.slice ro k rc) k cs (by rfl) x4 ⟨Wb.heap.size,0,none⟩ 1 1 [.slice (some ⟨g,0,none⟩) n1 c,.slice (some ⟨g', 0,none⟩) n2 c', .int .i64 (k:Int)] (by rfl) rfl (World.news_of_block (cs:=#[.slice (some ⟨g,0,none⟩) n1 c,.slice (some ⟨g', 0,none⟩) n2 c', .int .i64 (k:Int)]) (t:=144) (fr:=(0,0)) (heap_alloc_new Wb.drew _)) HON (by omega) b1 b2 b3 Wb.drew.heap.size.succ (by simp) ?_;intro gg cap w9 hown hgrow _ _;obtain ⟨⟨m1,m2⟩,m3,m4,m5⟩:=MORE.out w9 _ hown (Zc.grown (Zc.alloc (Zc.refl _ Wb).drew _) hgrow (λ _ e _=>e));refine hK.out _ _ m4 (λ hS5=>?_);simp only [Act.put,List.setIfInBounds_toArray,List.set_cons_zero,List.set_cons_succ];refine Ya 10 54 (.pointer (some ⟨w4.heap.size,0,none⟩)) rfl rfl ?hs ?hf ?hr ?hQ ?hy ?hS ?_
   case hs=>kernel_rfl
   case hf=>kernel_rfl
   case hr=>kernel_rfl
   case hQ=>exact λ _ _ _ _ h=>h
   case hS=>assumption
   case hy=>exact Or.inl ⟨by rfl,by intro ww hSw;go_simp⟩
   simp only [List.setIfInBounds_toArray,List.set_cons_zero,List.set_cons_succ];refine Ya 11 55 (.pointer (some ⟨w4.heap.size,1,none⟩)) rfl rfl ?hs ?hf ?hr ?hQ ?hy ?hS ?_
   case hs=>kernel_rfl
   case hf=>kernel_rfl
   case hr=>kernel_rfl
   case hQ=>exact λ _ _ _ _ h=>h
   case hS=>assumption
   case hy=>exact Or.inl ⟨by rfl,by intro ww hSw;go_simp⟩
   simp only [List.setIfInBounds_toArray,List.set_cons_zero,List.set_cons_succ];refine wpAnyH_ready (rs:=[12]) (by kernel_rfl) (by simp) ?_;refine AllReadyH.cons rfl (λ K hK=>?_) AllReadyH.nil;clear MORE ROW SS S1 S2 x1 x2 x3 x4 hS0 hS3 hS4 hS5
   go_simp
   refine hK.out _ _ m5 (λ hS6=>?_);refine wpAnyH_done (by kernel_rfl) ?_ _;exact ⟨rfl,m3.out.2,m3.out.1⟩
  ·go_simp
   refine hK.out _ _ S2 (λ hS3=>?_);simp only [List.setIfInBounds_toArray,List.set_cons_zero,List.set_cons_succ];refine wpAnyH_ready (rs:=[4]) (by kernel_rfl) (by simp) ?_;refine AllReadyH.cons rfl (λ K hK=>?_) AllReadyH.nil
   go_simp
   refine hK.out _ _ S2 (λ hS4=>?_);simp only [List.setIfInBounds_toArray,List.set_cons_zero,List.set_cons_succ];refine wpAnyH_ready (rs:=[9]) (by kernel_rfl) (by simp) ?_;refine AllReadyH.cons rfl (λ K hK=>?_) AllReadyH.nil;refine step_append_lies _ rfl _ _ 210 rfl w5.heap.size 144 i0 _ 3 56 underlying210 hi0 hz0 hz1 hz2 rfl (by decide) (.slice ro k rc) k cs (by rfl) x4 ⟨Wb.heap.size,0,none⟩ 1 1 [.slice (some ⟨g,0,none⟩) n1 c,.slice (some ⟨g', 0,none⟩) n2 c', .int .i64 (k:Int)] (by rfl) rfl (World.news_of_block (cs:=#[.slice (some ⟨g,0,none⟩) n1 c,.slice (some ⟨g', 0,none⟩) n2 c', .int .i64 (k:Int)]) (t:=144) (fr:=(0,0)) (heap_alloc_new Wb.drew _)) HON (by omega) b1 b2 b3 Wb.drew.heap.size.succ (by simp) ?_;intro gg cap w9 hown hgrow _ _;obtain ⟨⟨m1,m2⟩,m3,m4,m5⟩:=MORE.out w9 _ hown (Zc.grown (Zc.alloc (Zc.refl _ Wb).drew _) hgrow (λ _ e _=>e));refine hK.out _ _ m4 (λ hS5=>?_);simp only [Act.put,List.setIfInBounds_toArray,List.set_cons_zero,List.set_cons_succ];refine Ya 10 54 (.pointer (some ⟨w4.heap.size,0,none⟩)) rfl rfl ?hs ?hf ?hr ?hQ ?hy ?hS ?_
   case hs=>kernel_rfl
   case hf=>kernel_rfl
   case hr=>kernel_rfl
   case hQ=>exact λ _ _ _ _ h=>h
   case hS=>assumption
   case hy=>exact Or.inl ⟨by rfl,by intro ww hSw;go_simp⟩
   simp only [List.setIfInBounds_toArray,List.set_cons_zero,List.set_cons_succ];refine Ya 11 55 (.pointer (some ⟨w4.heap.size,1,none⟩)) rfl rfl ?hs ?hf ?hr ?hQ ?hy ?hS ?_
   case hs=>kernel_rfl
   case hf=>kernel_rfl
   case hr=>kernel_rfl
   case hQ=>exact λ _ _ _ _ h=>h
   case hS=>assumption
   case hy=>exact Or.inl ⟨by rfl,by intro ww hSw;go_simp⟩
   simp only [List.setIfInBounds_toArray,List.set_cons_zero,List.set_cons_succ];refine wpAnyH_ready (rs:=[12]) (by kernel_rfl) (by simp) ?_;refine AllReadyH.cons rfl (λ K hK=>?_) AllReadyH.nil;clear MORE ROW SS S1 S2 x1 x2 x3 x4 hS0 hS3 hS4 hS5
   go_simp
   refine hK.out _ _ m5 (λ hS6=>?_);refine wpAnyH_done (by kernel_rfl) ?_ _;exact ⟨rfl,m3.out.2,m3.out.1⟩
end
section
open Go.RowKit
attribute [local go_sem ↓] Go.wp_at_zero Go.wp_at_succ
def alB (L:List Sym) (T:List Int) (X:List (Nat × Nat)) (p:Nat):Bool:=!(X.any (rxIn p (Zj L T p)))
theorem Zpf {rc:Nat} (h:Zcu w b bs ro rc tto tc L R T) {lb:Nat} (hx:Kl w lo X) (hm:X.length<=2000) (hcb:w.cell? ⟨cb,0,none⟩=some (.pointer (some ⟨b,0,none⟩))) (hlb:w.cell? ⟨lb,0,none⟩=some (.slice lo X.length lc)) (hp:p<T.length) :
  Calls prog 114 #[.agg #[.int .i64 (p:Int),.int .i64 (r:Int)],.pointer (some ⟨cb,0,none⟩),.pointer (some ⟨lb,0,none⟩)] w λ e w' => e=.returned (.bool (alB L T X p))∧Za w w' := by
 have hT:=Ze.1 h.ok;have hpl:Zz L T (p:Int)=0:=by unfold Zz;rw [if_neg (by simp [h.ok]),if_neg (by omega)]
 have hen:Zx9 L T (p:Int)=((Zj L T p:Nat):Int):=by unfold Zx9;rw [if_pos hpl,Int.toNat_natCast]
 obtain ⟨W1,hW1⟩:∃ W1,W1=w.alloc (.cells #[.int .i64 (p:Int),.int .i64 (r:Int)] 85):=⟨_,rfl⟩;have KW:Za w W1:=by rw [hW1];exact Zal9
 have bx:W1.heap[w.heap.size]? = some (.cells #[.int .i64 (p:Int),.int .i64 (r:Int)] 85 (0,0)):=by rw [hW1];exact heap_alloc_new _ _
 have HC:Hid (∀ ww,Za W1 ww->ww.cell? ⟨cb,0,none⟩=some (.pointer (some ⟨b,0,none⟩))∧ww.cell? ⟨b,0,none⟩=some (.pointer (some ⟨bs,0,none⟩))∧ww.cell? ⟨b,2,none⟩=some (.slice tto T.length tc)∧ww.cell? ⟨w.heap.size,0,none⟩=some (.int .i64 (p:Int))):=λ ww hk=>by
  have k:=KW.trans' hk;have h2:=(h.same k).blk;exact ⟨(k.cell (p:=⟨cb,0,none⟩) (World.block_lt_of_cell? _ _ hcb) (λ f=>f)).trans hcb,Zb h2 0,Zb h2 2,Zb (hk.at0 bx) 0⟩
 have HL:Hid (∀ ww,Za W1 ww->ww.cell? ⟨lb,0,none⟩=some (.slice lo X.length lc)):=λ ww hk=>((KW.trans' hk).cell (p:=⟨lb,0,none⟩) (World.block_lt_of_cell? _ _ hlb) (λ f=>f)).trans hlb
 have CE:Hid (∀ ww,Za W1 ww->Calls prog 115 #[.pointer (some ⟨bs,0,none⟩),.slice tto T.length tc,.int .i64 (p:Int)] ww λ e w' => e=.returned (.tuple #[.int .i64 ((Zj L T p:Nat):Int),.int .i64 0])∧Za ww w'):=λ ww hk=>by
  have h2:=h.same (KW.trans' hk);have:=Zwq (cap:=tc) h2.sig h2.tm.at' (by unfold maxLen;omega) (p:Int);rw [hen,hpl] at this;exact this
 have CN:Hid (∀ ww eb,Za W1 ww->ww.cell? ⟨eb,0,none⟩=some (.int .i64 ((Zj L T p:Nat):Int))->Calls prog 116 #[.slice lo X.length lc,.func (.func 117) #[] #[.pointer (some ⟨w.heap.size,0,none⟩),.pointer (some ⟨eb,0,none⟩)]] ww λ e w' => e=.returned (.bool (X.any (rxIn p (Zj L T p))))∧Za ww w'):=λ ww eb hk he=>Zqz (λ w9 o k9=>Zvz (p:=p) (r:=r) (Zb ((hk.trans' k9).at0 bx) 0) ((k9.cell (p:=⟨eb,0,none⟩) (World.block_lt_of_cell? _ _ he) (λ f=>f)).trans he) o) (hx.same (KW.trans' hk)) hm (Zc.refl _ _);have KW2:Hid (Za w W1):=KW;have kd:Hid (∀ ww:World,Za ww ww.drew):=λ ww=>(Zc.refl _ _).drew;have hd1:Za W1 W1.drew:=kd.out W1;have hd2:Za W1 (W1.drew.alloc (.cells #[.int .i64 0] 3)):=hd1.trans' (Zal9);have hb2:(W1.drew.alloc (.cells #[.int .i64 0] 3)).heap[W1.heap.size]? = some (.cells #[.int .i64 0] 3 (0,0)):=heap_alloc_new W1.drew _;have HFA:Hid (∀ w3,Za W1 w3->Za W1 (w3.alloc (.cells #[.int .i64 ((Zj L T p:Nat):Int)] 3))∧(w3.alloc (.cells #[.int .i64 ((Zj L T p:Nat):Int)] 3)).cell? ⟨w3.heap.size,0,none⟩=some (.int .i64 ((Zj L T p:Nat):Int))):=λ w3 hk=>⟨hk.trans' (Zal9),Zb (heap_alloc_new w3 _) 0⟩
 have HFB:Hid (∀ w3,Za (W1.drew.alloc (.cells #[.int .i64 0] 3)) w3->w3.cell? ⟨W1.heap.size,0,none⟩=some (.int .i64 0)∧w3.frozen? ⟨W1.heap.size,0,none⟩=false∧Za W1 (w3.setCell ⟨W1.heap.size,0,none⟩ (.int .i64 ((Zj L T p:Nat):Int)))∧(w3.setCell ⟨W1.heap.size,0,none⟩ (.int .i64 ((Zj L T p:Nat):Int))).cell? ⟨W1.heap.size,0,none⟩=some (.int .i64 ((Zj L T p:Nat):Int))):=λ w3 hk=>by
  have h3:=hk.at0 hb2;exact ⟨Zb h3 0,Zg h3 0,Zc.trans (hd2.trans' hk) (Yh w3 W1.heap.size 0 _) (λ i hi e=>by have e' : i=W1.heap.size:=e;omega),Zb (Zt h3 0 (.int .i64 ((Zj L T p:Nat):Int))) 0⟩
 unfold alB;clear h hx hcb hlb hT hpl hen bx KW;generalize X.any (rxIn p (Zj L T p))=vb at *;generalize Zj L T p=en at *
 go_enter func114,ntmps114
 go_upto_region 1 with fail
 rw [<- hW1];clear hW1;have cc0:=HC.out _ hd1;have cc2:=HC.out _ hd2;have cc3:=cc0;have cc4:=cc0
 go_region_held3 (λ ww=>ww.cell? ⟨cb,0,none⟩=some (.pointer (some ⟨b,0,none⟩))∧ww.cell? ⟨b,0,none⟩=some (.pointer (some ⟨bs,0,none⟩))∧ww.cell? ⟨b,2,none⟩=some (.slice tto T.length tc)∧ww.cell? ⟨w.heap.size,0,none⟩=some (.int .i64 (p:Int))) (first | (with_reducible first | exact cc0 | exact cc1 | exact cc2 | exact cc3 | exact cc4) | exact cc2 | exact cc3 | exact cc4) (first
  | (go_at_call 115;first
    | (refine (CE.out _ hd1).mono ?_;rintro e w3 ⟨rfl,k3⟩;have K3:=hd1.trans' k3;have cc1:=HC.out w3 K3;have cc3:=HC.out _ (K3.trans' ((Zc.refl _ w3).alloc (.cells #[.int .i64 0] 3)));have cc4:=HC.out _ (K3.trans' ((Zc.refl _ w3).alloc (.cells #[.int .i64 (en:Int)] 3)));have FA:=HFA.out w3 K3)
    | (refine (CE.out _ hd2).mono ?_;rintro e w3 ⟨rfl,k3⟩;have K3:=hd2.trans' k3;have cc1:=HC.out w3 K3;obtain ⟨m1,m2,m3,m4⟩:=HFB.out w3 k3;have cc3:=HC.out _ m3;have cc4:=cc3)))
 ·obtain ⟨q1,q2⟩:=FA
  have C2:=CN.out _ w3.heap.size q1 q2;have l1:=HL.out _ q1;have KF:Hid (Za w (w3.alloc (.cells #[.int .i64 (en:Int)] 3))):=KW2.out.trans' q1;clear CN HL HC CE HFA HFB cc0 cc1 cc2 cc3 cc4 hd1 hd2 hb2 K3 k3 q1 q2
  go_wp2_with ((go_at_call 116;refine C2.mono ?_;rintro e w9 ⟨rfl,k9⟩))
  go_ret;exact ⟨by first | rfl | simp,KF.out.trans' k9⟩
 ·have C2:=CN.out _ W1.heap.size m3 m4
  have l1:=HL.out _ m3;have KF:Hid (Za w (w3.setCell ⟨W1.heap.size,0,none⟩ (.int .i64 (en:Int)))):=KW2.out.trans' m3;clear CN HL HC CE HFA HFB cc0 cc1 cc2 cc3 cc4 hd1 hd2 hb2 K3 k3 m3 m4
  go_wp2_with ((go_at_call 116;refine C2.mono ?_;rintro e w9 ⟨rfl,k9⟩))
  go_ret;exact ⟨by first | rfl | simp,KF.out.trans' k9⟩
def Zl4 (L:List Sym) (T:List Int) (X:List (Nat × Nat)) (e:Ending):Prop:=(∃ k,∃ hk:k<X.length,alB L T X X[k].1=true∧(∀ j (hj:j<k),alB L T X (X[j]'(by omega)).1=false)∧e=.returned (.tuple #[.agg #[.int .i64 ((X[k].1:Nat):Int),.int .i64 ((X[k].2:Nat):Int)],.bool true]))∨((∀ j (hj:j<X.length),alB L T X X[j].1=false)∧e=.returned (.tuple #[.agg #[.int .i64 0,.int .i64 0],.bool false]))
theorem Ztk (w:World) (ro:Option Addr) (n c:Nat) :
  Calls prog 113 #[.slice ro n c] w λ e w' => e=.returned (.func (.func 164) #[] #[.pointer (some ⟨w.heap.size,0,none⟩)])∧w' = w.alloc (.cells #[.slice ro n c] 77):=by
 go_enter func113,ntmps113
 go_wp2;go_ret;exact ⟨rfl,rfl⟩
theorem Zgv (h:Zaq w y sp V L R) (hg:GoodR L R) (hT:Arg w tto T tc) (hc:Zd L T=0) (hcl:∀ x∈T,0<=x) :
  Calls prog 30 #[.pointer (some ⟨y,0,none⟩),.slice tto T.length tc] w λ e w' => ∃ lo lc,e=.returned (.tuple #[.slice lo (Vx L R T).length lc,.nilIface])∧Kl w' lo (Vx L R T)∧Za w w' := by
 have hn0:=Za6;have C:=Zac h hg hT hc hcl
 have CX:Hid (∀ w2 b bs ro rc,Zcu w2 b bs ro rc tto tc L R T->Calls prog 66 #[.pointer (some ⟨b,0,none⟩)] w2 (λ e w' => e=.returned (.func (.func 107) #[] #[.pointer (some ⟨w2.heap.size,0,none⟩)])∧Za w2 w' ∧ Calls prog 65 #[.func (.func 107) #[] #[.pointer (some ⟨w2.heap.size,0,none⟩)]] w' λ e w3=>∃ lo lc,e=.returned (.slice lo (Vx L R T).length lc)∧Kl w3 lo (Vx L R T)∧Za w' w3)):=λ w2 b bs ro rc hcl2=>(Zdv w2 b).mono (by
  rintro e w' ⟨rfl,rfl⟩;have k:Za w2 (w2.alloc (.cells #[.pointer (some ⟨b,0,none⟩)] 142)):=Zal9
  exact ⟨rfl,k,Zdm (hcl2.same k) (Zc.refl _ _) (Zb (heap_alloc_new _ _) 0)⟩)
 clear h hT hc hcl;generalize Vx L R T=X at *
 go_enter func30,ntmps30
 go_wp2_with (first
  | (go_at_call 64;refine C.mono ?_;rintro e w2 ⟨b,bs,ro,rc,rfl,h2,k2, -⟩;have C2:=CX.out w2 b bs ro rc h2)
  | (go_at_call 66;refine C2.mono ?_;rintro e w3 ⟨rfl,k3,C3⟩)
  | (go_at_call 65;refine C3.mono ?_;rintro e w4 ⟨lo,lc,rfl,h4,k4⟩))
 go_ret2
 exact ⟨lo,lc,by first | rfl | simp,h4,(k2.trans' k3).trans' k4⟩
theorem Zrm (w:World):(binOp .eql 24 (.pointer none) (.pointer none)).run prog w=.ok (.bool true) w:=by kernel_rfl
theorem Jl (v:Value) (w:World):(binOp .neq 46 (.iface 114 v) .nilIface).run prog w=.ok (.bool true) w:=by kernel_rfl
theorem Vp (w:World) (tto:Option Addr) (n c:Nat):Calls prog 64 #[.pointer none,.slice tto n c] w λ e w' => ∃ q,e=.returned (.tuple #[.pointer none,.iface 114 (.pointer (some ⟨q,0,none⟩))])∧Zn w' [(1,0)] (.iface 114 (.pointer (some ⟨q,0,none⟩)))∧Za w w' := by
 have h0:=Zrm;have ka:Za w (w.alloc (.cells #[.int .i64 1,.int .i64 0,.nilIface] 116)):=Zal9;have hf:Zn (w.alloc (.cells #[.int .i64 1,.int .i64 0,.nilIface] 116)) [(1,0)] (.iface 114 (.pointer (some ⟨w.heap.size,0,none⟩))):=.inr ⟨by decide,_,_,rfl,heap_alloc_new _ _,rfl⟩
 go_enter func64,ntmps64
 go_wp2
 go_ret2
 exact ⟨w.heap.size,by first | rfl | simp,hf,ka⟩
end
end Go.Proofs.YtmjgnfkbnofjoaaGreatDoor
