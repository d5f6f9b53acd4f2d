import Derived.Test.YtcbplgfkgkefeaaGH02
import Derived.Deep.AppendLies
import Derived.Test.YtcbplgfkgkefeaaGH01
namespace Go.Proofs.Ytcbplgfkgkefeaa
set_option maxRecDepth 100000
set_option linter.unusedVariables false
open Go.RowKit
attribute [local go_sem ↓] Go.wp_at_zero Go.wp_at_succ
theorem step_any {w:World} {h g room:Nat} {l:List Nd} (p:Hp w h g room l) (x:Raw4) (hx:x.ok):Calls Try.prog 23 #[.pointer (some ⟨h,0,none⟩),rawV x] w fun e w' => StepQ w h g room l x e w' := by
 have h7:=pick_lt x.1 (show (0:Int)<7 by decide)
 by_cases h4:pickF x.1 7<4
 ·exact step_make p x hx _ rfl h4
 ·by_cases h6:pickF x.1 7=6
  ·exact step_mark p x hx (by omega)
  ·exact step_point p x hx _ rfl (by omega)
set_option maxHeartbeats 1000000 in
theorem grown_any {w:World} {ro:Option Addr} {rs:List Raw4} {rc:Nat} (hr:RawsAt w ro rs) (hl:rs.length≤maxLen) (hok:∀ r∈rs,r.ok) (rm:Int) (hrm:I64 rm) :
  Calls Try.prog 16 #[.int .i64 rm,.slice ro rs.length rc] w fun e w' => ∃ h g room l,e=.returned (.pointer (some ⟨h,0,none⟩))∧Hp w' h g room l∧Same0 w w' ∧ w.heap.size≤h∧w.heap.size≤g:=by
 unfold maxLen at hl
 have hp:=pick_lt rm (show (0:Int)<200 by decide)
 obtain ⟨P,hP⟩:∃ P,P=pickF rm 200:=⟨_,rfl⟩
 have CP:=pick_any rm hrm 200 (by decide) (by decide) w
 rw [← hP] at hp CP
 clear hP
 have CN:Calls Try.prog 13 #[.int .i64 (1+(P:Int))] w fun e w' => ∃ h g,e=.returned (.tuple #[.pointer (some ⟨h,0,none⟩),.int .i64 0])∧HpB (fun _=>False) w' h g (P+1) []∧Same0 w w' ∧ w.heap.size≤h∧w.heap.size≤g:=by
  have:=hnew_yes (P+1) w (by omega) (by omega)
  rwa [show ((P+1:Nat):Int)=1+(P:Int) by omega] at this
 have HX:Hid (∀ ww,Same0 w ww→RawsAt ww ro rs):=fun ww hk=>hr.same hk
 have HO:Hid (∀ r∈rs,r.ok):=hok
 clear hr hok
 go_enter Try.func16,Try.ntmps16
 go_upto_region 2 with (first | (go_at_call 25;refine CP.mono ?_;rintro e w1 ⟨rfl,h1⟩;have h1:=h1.symm;subst h1) | (go_at_call 13;refine CN.mono ?_;rintro e w2 ⟨h,g,rfl,p2,k2,hh,hg⟩))
 go_wp2
 clear CP CN
 go_loopw [7] (fun i wr=>∃ (k:Nat) (l:List Nd),i=.int .i64 (k:Int)∧k≤rs.length∧Hid (Hp wr h g (P+1) l)∧Same0 w wr) (fun i _=>rs.length-(intOf i).toNat)
 case atStart=>exact ⟨0,[],rfl,Nat.zero_le _,p2.any,k2⟩
 case round=>
  clear p2 k2
  obtain ⟨k,l,rfl,hk,HH,hw⟩:=hrel
  by_cases hlt:k<rs.length
  ·have j1:(k:Int)<(rs.length:Int):=by omega
   have j2:(0:Int)≤(k:Int):=by omega
   obtain ⟨b,off,rfl,c0,c1,c2,c3⟩:=(HX.out wr hw).get hlt
   have CS:=step_any HH.out rs[k] (HO.out _ (List.getElem_mem hlt))
   go_wp2_with (first | (go_at_call 23;refine CS.mono ?_;rintro e w5 ⟨er,l', rfl,p5,k5, -⟩))
   go_roundw
   case rel=>exact ⟨k+1,l', by go_num,by omega,p5,hw.heap hh hg k5⟩
   case measure=>simp [intOf];omega
  ·obtain rfl:k=rs.length:=by omega
   go_wp2
   go_ret
   exact ⟨h,g,P+1,l,rfl,HH.out,hw,hh,hg⟩
def NCl (B:Nat→Prop) (w:World) (vs:List Value) (l:List Nd):Prop:=
 vs.length=l.length * 5∧∀ i (h:i<l.length),∃ ao ac,vs[i * 5]? = some (.int .i64 l[i].1)∧vs[i * 5+1]? = some (.slice ao l[i].2.1.length ac)∧vs[i * 5+2]? = some (.int .i64 l[i].2.2.1)∧vs[i * 5+3]? = some (.bool l[i].2.2.2.1)∧vs[i * 5+4]? = some (.int .i64 l[i].2.2.2.2)∧ArgT w ao l[i].2.1 ac∧∀ a,ao=some a→B a.block
theorem NCl.nil (B:Nat→Prop) (w:World):NCl B w [] []:=⟨rfl,fun i h=>absurd h (Nat.not_lt_zero _)⟩
theorem NCl.kept {B S:Nat→Prop} {w w' : World} {vs:List Value} {l:List Nd} (h:NCl B w vs l) (hk:Kept S w w') (hS:∀ k,B k→S k→NotI w k):NCl B w' vs l:=by
 refine ⟨h.1,fun i hi=>?_⟩
 obtain ⟨ao,ac,h0,h1,h2,h3,h4,h5,h6⟩:=h.2 i hi
 refine ⟨ao,ac,h0,h1,h2,h3,h4,h5.kept' hk (fun a e s=>?_),h6⟩
 obtain ⟨cur,hc⟩:=h5.2 a e
 exact hS _ (h6 a e) s cur hc
theorem NCl.mono {B B' : Nat→Prop} {w:World} {vs:List Value} {l:List Nd} (h:NCl B w vs l) (hB:∀ k,k<w.heap.size→B k→B' k):NCl B' w vs l:=by
 refine ⟨h.1,fun i hi=>?_⟩
 obtain ⟨ao,ac,h0,h1,h2,h3,h4,h5,h6⟩:=h.2 i hi
 exact ⟨ao,ac,h0,h1,h2,h3,h4,h5,fun a e=>hB _ (h5.lt e) (h6 a e)⟩
theorem NCl.snoc {B:Nat→Prop} {w:World} {vs:List Value} {l:List Nd} (h:NCl B w vs l) {x:Nd} {ao:Option Addr} {ac:Nat} (ha:ArgT w ao x.2.1 ac) (hb:∀ a,ao=some a→B a.block):NCl B w (vs ++ [.int .i64 x.1,.slice ao x.2.1.length ac,.int .i64 x.2.2.1,.bool x.2.2.2.1,.int .i64 x.2.2.2.2]) (l ++ [x]):=by
 refine ⟨by simp [h.1];omega,fun i hi=>?_⟩
 by_cases e:i<l.length
 ·rw [List.getElem_append_left e]
  obtain ⟨ao,ac,h0,h1,h2,h3,h4,h5,h6⟩:=h.2 i e
  have hl:=h.1
  exact ⟨ao,ac,by rw [List.getElem?_append_left (by omega)];exact h0,by rw [List.getElem?_append_left (by omega)];exact h1,by rw [List.getElem?_append_left (by omega)];exact h2,by rw [List.getElem?_append_left (by omega)];exact h3,by rw [List.getElem?_append_left (by omega)];exact h4,h5,h6⟩
 ·obtain rfl:i=l.length:=by simp at hi;omega
  have hl:=h.1
  have t:∀ j,(vs ++ [.int .i64 x.1,.slice ao x.2.1.length ac,.int .i64 x.2.2.1,.bool x.2.2.2.1,.int .i64 x.2.2.2.2])[l.length * 5+j]? = [Value.int .i64 x.1,.slice ao x.2.1.length ac,.int .i64 x.2.2.1,.bool x.2.2.2.1,.int .i64 x.2.2.2.2][j]? := fun j=>by
   rw [List.getElem?_append_right (by omega),hl,Nat.add_sub_cancel_left]
  simp only [List.getElem_append_right (Nat.le_refl _),Nat.sub_self,List.getElem_cons_zero]
  exact ⟨ao,ac,t 0,t 1,t 2,t 3,t 4,ha,hb⟩
def NRow (B:Nat→Prop) (base:Nat) (w:World) (v:Value) (l:List Nd):Prop:=∃ vs,w.ownsRow base 45 5 v l.length vs∧NCl B w vs l
theorem NRow.nil (B:Nat→Prop) (base:Nat) (w:World):NRow B base w (.slice none 0 0) []:=⟨[],World.ownsRow_nil _ _ _ _,NCl.nil B w⟩
theorem NRow.kept {B S:Nat→Prop} {base:Nat} {w w' : World} {v:Value} {l:List Nd} (h:NRow B base w v l) (hk:Kept S w w') (hn:∀ k,v.ownBlock=some k→¬ S k) (hS:∀ k,B k→S k→NotI w k):NRow B base w' v l:=by
 obtain ⟨vs,h1,h2⟩:=h
 exact ⟨vs,hk.row h1 hn,h2.kept hk hS⟩
theorem NRow.same {B:Nat→Prop} {base:Nat} {w w' : World} {v:Value} {l:List Nd} (h:NRow B base w v l) (hk:Same0 w w'):NRow B base w' v l:=h.kept hk (fun _ _ f=>f) (fun _ _ f=>f.elim)
theorem NRow.shape {B:Nat→Prop} {base:Nat} {w:World} {v:Value} {l:List Nd} (h:NRow B base w v l):∃ ao cap,v=.slice ao l.length cap:=by
 obtain ⟨vs,h1,_⟩:=h
 exact row_shape h1
theorem NRow.block {B:Nat→Prop} {base:Nat} {w:World} {v:Value} {l:List Nd} (h:NRow B base w v l) {k:Nat} (e:v.ownBlock=some k):base≤k∧k<w.heap.size∧NotI w k:=by
 obtain ⟨vs,h1,_⟩:=h
 rcases h1.2 with ⟨rfl,_⟩ | ⟨g,cap,cur,rfl,hb,hg,_⟩
 ·cases e
 ·obtain rfl:g=k:=Option.some.inj e
  exact ⟨hb,lt_of_at hg,fun c hc=>by rw [hg] at hc;cases hc⟩
def NsM (B:Nat→Prop) (w:World) (ao:Option Addr) (l:List Nd):Prop:=l=[]∨∃ b off,ao=some ⟨b,off,none⟩∧b<w.heap.size∧∀ i (hi:i<l.length),NdC B w b (off+i * 5) l[i]
theorem NsM.same {B:Nat→Prop} {w w' : World} {ao:Option Addr} {l:List Nd} (h:NsM B w ao l) (hk:Same0 w w'):NsM B w' ao l:=by
 refine h.imp id ?_
 rintro ⟨b,off,rfl,hlt,hc⟩
 exact ⟨b,off,rfl,Nat.lt_of_lt_of_le hlt hk.size,fun i hi=>(hc i hi).kept hlt hk (fun f=>f) (fun _ _ f=>f.elim)⟩
theorem NRow.mem {B:Nat→Prop} {base:Nat} {w:World} {ao:Option Addr} {cap:Nat} {l:List Nd} (h:NRow B base w (.slice ao l.length cap) l):NsM B w ao l:=by
 obtain ⟨vs,h1,h2⟩:=h
 by_cases e:l=[]
 ·exact .inl e
 ·have h1' := h1
  rcases h1.2 with ⟨q,h0⟩ | ⟨g,cap', cur,q,hb,hg,_⟩
  ·exact absurd (List.eq_nil_of_length_eq_zero h0) e
  ·cases q
   refine .inr ⟨g,0,rfl,lt_of_at hg,fun i hi=>?_⟩
   obtain ⟨ao,ac,g0,g1,g2,g3,g4,g5,g6⟩:=h2.2 i hi
   have t:∀ j u,vs[j]? = some u→w.cell? ⟨g,j,none⟩=some u:=fun j u hj=>by
    have:=h1'.cells (g:=g) rfl j u hj
    by_cases q:j=0
    ·subst q;simpa [Addr.add] using this
    ·simpa [Addr.add,q] using this
   rw [Nat.zero_add]
   exact ⟨ao,ac,t _ _ g0,t _ _ g1,t _ _ g2,t _ _ g3,t _ _ g4,g5,g6⟩
theorem wpList_nd {w0 W:World} {ops:Array Oper} {rest:List Oper} {o:Oper} {a:Act} {Q:Exit→Act→World→Prop} (hgd:o.guard=none) (s x:Operand)
  (ho:o.op=.call { callee:=.builtin .append,args:=#[s,x],argTypes:=#[32,32] })
  {B:Nat→Prop} (base:Nat) (l:List Nd) (v:Value) (hs:a.eval s=v) (hW:Same0 w0 W) (hr:NRow B base w0 v l) (y:Nd) (ao:Option Addr) (ac:Nat) (q:Nat) (hx:a.eval x=.slice (some ⟨q,0,none⟩) 1 1) (hq:W.heap[q]? = some (.cells #[.int .i64 y.1,.slice ao y.2.1.length ac,.int .i64 y.2.2.1,.bool y.2.2.2.1,.int .i64 y.2.2.2.2] 45 (0,0))) (ha:ArgT w0 ao y.2.1 ac) (hba:∀ b,ao=some b→B b.block) (hb:base≤w0.heap.size) (hsz:l.length≤1000000)
  (h:∀ g cap w', NRow B base w' (.slice (some ⟨g,0,none⟩) (l.length+1) cap) (l ++ [y])→Kept (fun k=>v.ownBlock=some k) w0 w' → (v.ownBlock=some g∨W.heap.size≤g)→wpList Try.prog ops Q rest (a.put o.dst (.slice (some ⟨g,0,none⟩) (l.length+1) cap)) w') :
  wpList Try.prog ops Q (o :: rest) a W:=by
 obtain ⟨i,hi,hz0,hz1,hz2⟩:=info_parts info_node
 obtain ⟨vs,h1,h2⟩:=hr
 have nb:∀ k,v.ownBlock=some k→NotI w0 k:=fun k e=>(NRow.block ⟨vs,h1,h2⟩ e).2.2
 refine wpList_append_lies _ hgd s x 32 ho base 45 i _ 5 56 Try.underlying32 hi hz0 hz1 hz2 rfl (by decide) v l.length vs hs (hW.row h1 (fun _ _ f=>f)) ⟨q,0,none⟩ 1 1 [.int .i64 y.1,.slice ao y.2.1.length ac,.int .i64 y.2.2.1,.bool y.2.2.2.1,.int .i64 y.2.2.2.2] hx rfl (World.news_of_block (cs:=#[.int .i64 y.1,.slice ao y.2.1.length ac,.int .i64 y.2.2.1,.bool y.2.2.2.1,.int .i64 y.2.2.2.2]) (t:=45) (fr:=(0,0)) hq) (by intro u hu;simp at hu;rcases hu with rfl | rfl | rfl | rfl | rfl <;> rfl) (by omega) (by unfold maxLen;omega) (by omega) (Nat.le_trans hb hW.size) W.heap.size rfl ?_
 intro g cap w' hown hgrow hat hlt
 have K:Kept (fun k=>v.ownBlock=some k) w0 w' := Kept.grown (Kept.mono hW (fun _ _ f=>f.elim)) hgrow (fun _ e _=>e)
 refine h g cap w' ⟨_,by rw [List.length_append];exact hown,?_⟩ K (hat.imp id (fun e=>by omega))
 exact (h2.kept K (fun k _ e=>nb k e)).snoc (ha.kept K (fun k e=>nb k e)) hba
theorem box_node' (w:World) (x:Nd) (ao:Option Addr) (ac:Nat) {ww:World} (hk:Same0 (w.alloc (.cells #[.int .i64 x.1,.slice ao x.2.1.length ac,.int .i64 x.2.2.1,.bool x.2.2.2.1,.int .i64 x.2.2.2.2] 45)) ww) :
  ww.cell? ⟨w.heap.size,0,none⟩=some (.int .i64 x.1)∧ww.cell? ⟨w.heap.size,1,none⟩=some (.slice ao x.2.1.length ac)∧ww.cell? ⟨w.heap.size,2,none⟩=some (.int .i64 x.2.2.1)∧ww.cell? ⟨w.heap.size,3,none⟩=some (.bool x.2.2.2.1)∧ww.cell? ⟨w.heap.size,4,none⟩=some (.int .i64 x.2.2.2.2):=
 box5 (hk.at0 (heap_alloc_new w _))
theorem heap_at_node (w:World) (x:Nd) (ao:Option Addr) (ac:Nat):(w.alloc (.cells #[.int .i64 x.1,.slice ao x.2.1.length ac,.int .i64 x.2.2.1,.bool x.2.2.2.1,.int .i64 x.2.2.2.2] 45)).heap[w.heap.size]? = some (.cells #[.int .i64 x.1,.slice ao x.2.1.length ac,.int .i64 x.2.2.1,.bool x.2.2.2.1,.int .i64 x.2.2.2.2] 45 (0,0)):=heap_alloc_new w _
theorem NRow.onto {B:Nat→Prop} {w w0 w' : World} {v:Value} {l:List Nd} (h:Same0 w w0) (hr:NRow B w.heap.size w0 v l) (hk:Kept (fun k=>v.ownBlock=some k) w0 w'):Same0 w w' :=
 h.trans hk (fun i hi e=>by have:=(hr.block e).1;omega)
set_option maxHeartbeats 1000000 in
theorem told_any {w:World} {h g room:Nat} {l:List Nd} (p:Hp w h g room l) :
  Calls Try.prog 17 #[.pointer (some ⟨h,0,none⟩)] w fun e w' => ∃ v,e=.returned (.tuple #[v,.bool true])∧NRow (fun b=>w.heap.size≤b) w.heap.size w' v l∧Same0 w w' := by
 have hle:=p.le
 have hr2:=p.rm2
 have HP:Hid (∀ ww,Same0 w ww→Hp ww h g room l):=fun ww hk=>p.same hk
 have KR:Same0 w w:=Kept.refl _ _
 clear p
 go_enter Try.func17,Try.ntmps17
 go_wp2
 go_loopw [4,5] (fun v i wr=>∃ (k:Nat),i=.int .i64 (k:Int)∧k≤l.length∧NRow (fun b=>w.heap.size≤b) w.heap.size wr v (l.take k)∧Same0 w wr) (fun _ i _=>l.length-(intOf i).toNat)
 case atStart=>exact ⟨0,rfl,Nat.zero_le _,NRow.nil _ _ _,KR⟩
 case round=>
  clear KR
  obtain ⟨k,rfl,hk,hrow,hw⟩:=hrel
  have pr:=HP.out wr hw
  have CU:=used_any pr
  obtain ⟨vo,vc,rfl⟩:=hrow.shape
  have hlk:(l.take k).length=k:=by simp;omega
  rw [hlk] at hrow
  by_cases hlt:k<l.length
  ·have j1:(k:Int)<(l.length:Int):=by omega
   have j2:(k:Int)<4000:=by omega
   have C1:=hat_yes pr k hlt
   have HT:Hid (l.take (k+1)=l.take k ++ [l[k]]):=List.take_succ_eq_append_getElem hlt
   have HLK:Hid ((l.take k).length=k):=hlk
   rw [hlk]
   clear pr hlk
   go_upto_region 8 with (first | (go_at_call 18;refine CU.mono ?_;rintro e w3 ⟨rfl,h3⟩;have h3:=h3.symm;subst h3) | (go_at_call 21;refine C1.mono ?_;rintro e w3 ⟨bo,bc,rfl,ha,hbb,k3⟩))
   obtain ⟨W3,hW3⟩:∃ W3,W3=w3.alloc (.cells #[.int .i64 l[k].1,.slice bo l[k].2.1.length bc,.int .i64 l[k].2.2.1,.bool l[k].2.2.2.1,.int .i64 l[k].2.2.2.2] 45):=⟨_,rfl⟩
   have kk:Same0 w3 W3:=by rw [hW3];exact (Kept.refl _ _).alloc _
   have K3:Same0 wr W3:=k3.trans' kk
   obtain ⟨x0,x1,x2,x3,x4⟩:=box_node' w3 l[k] bo bc (show Same0 _ W3 by rw [hW3];exact Kept.refl _ _)
   have ha3:=ha.same kk
   have hr3:=hrow.same K3
   have hsz:w.heap.size≤W3.heap.size:=(hw.trans' K3).size
   have hbb' : ∀ b,bo=some b→w.heap.size≤b.block:=fun b e=>Nat.le_trans hw.size (hbb b e)
   have kW:=(Kept.refl (fun _=>False) W3).alloc (.cells #[.int .i64 l[k].1,.slice bo l[k].2.1.length bc,.int .i64 l[k].2.2.1,.bool l[k].2.2.2.1,.int .i64 l[k].2.2.2.2] 45)
   have hq:=heap_at_node W3 l[k] bo bc
   have HKK:Hid (∀ ww,Kept (fun i=>(Value.slice vo k vc).ownBlock=some i) W3 ww→Same0 w ww):=fun ww hk=>NRow.onto (hw.trans' K3) hr3 hk
   rw [← hW3]
   clear hW3 C1 CU k3 ha hrow hbb kk
   go_wp2_with (first | (at_builtin;refine wpList_nd rfl _ _ rfl w.heap.size (l.take k) _ rfl kW hr3 l[k] bo bc _ rfl hq ha3 hbb' hsz (by rw [HLK.out];omega) ?_;rw [HLK.out];intro g4 cap4 w4 hr4 hk4 hor))
   have hr5:NRow (fun b=>w.heap.size≤b) w.heap.size w4 (.slice (some ⟨g4,0,none⟩) (k+1) cap4) (l.take (k+1)):=by rw [HT.out];exact hr4
   have hk5:Same0 w w4:=HKK.out w4 hk4
   go_roundw
   case rel=>first | exact ⟨k+1,by go_num,by omega,hr5,hk5⟩ | ((repeat apply Exists.intro);exact ⟨⟨k+1,by go_num,by omega,hr5,hk5⟩,rfl⟩)
   case measure=>simp [intOf];omega
  ·obtain rfl:k=l.length:=by omega
   rw [List.take_length] at *
   clear hlk pr
   go_wp2_with (first | (go_at_call 18;refine CU.mono ?_;rintro e w3 ⟨rfl,h3⟩;have h3:=h3.symm;subst h3))
   go_ret2
   exact ⟨_,rfl,hrow,hw⟩
def eqI (xs ys:List Int):Bool:=decide (xs=ys)
def eqN (x y:Nd):Bool:=decide (x=y)
theorem eqI_no {xs ys:List Int} {k:Nat} (h1:k<xs.length) (h2:k<ys.length) (h:xs[k]≠ys[k]):eqI xs ys=false:=by
 unfold eqI;simp;rintro rfl;exact h rfl
theorem eqI_yes {xs ys:List Int} (hl:xs.length=ys.length) (h:∀ k (h1:k<xs.length) (h2:k<ys.length),xs[k]=ys[k]):eqI xs ys=true:=by
 unfold eqI;simp;exact List.ext_getElem hl (fun k h1 h2=>h k h1 h2)
set_option maxHeartbeats 1000000 in
theorem sameInts_any {w:World} {ao bo:Option Addr} {xs ys:List Int} (ac bc:Nat) (hx:IntsAt w ao xs) (hy:IntsAt w bo ys) (hm:xs.length≤maxLen) :
  Calls Try.prog 48 #[.slice ao xs.length ac,.slice bo ys.length bc] w fun e w' => e=.returned (.bool (eqI xs ys))∧Same0 w w' := by
 unfold maxLen at hm
 by_cases hl:xs.length=ys.length
 ·have hl' : (xs.length:Int)=(ys.length:Int):=by omega
  have HX:Hid (∀ ww,Same0 w ww→∀ k (hk:k<xs.length),∃ b off,ao=some ⟨b,off,none⟩∧ww.cell? ⟨b,off+k,none⟩=some (.int .i64 xs[k])):=fun ww hw k hk=>by
   obtain ⟨b,off,e,_,hc⟩:=(hx.same hw).get hk
   exact ⟨b,off,e,hc⟩
  have HY:Hid (∀ ww,Same0 w ww→∀ k (hk:k<ys.length),∃ b off,bo=some ⟨b,off,none⟩∧ww.cell? ⟨b,off+k,none⟩=some (.int .i64 ys[k])):=fun ww hw k hk=>by
   obtain ⟨b,off,e,_,hc⟩:=(hy.same hw).get hk
   exact ⟨b,off,e,hc⟩
  have HL:Hid (xs.length=ys.length):=hl
  have KR:Same0 w w:=Kept.refl _ _
  clear hx hy hl
  go_enter Try.func48,Try.ntmps48
  go_wp2
  go_loopw [5] (fun i wr=>∃ k:Nat,k≤xs.length∧i=.int .i64 k∧Hid (∀ j (h1:j<xs.length) (h2:j<ys.length),j<k→xs[j]=ys[j])∧Same0 w wr) (fun i _=>xs.length-(intOf i).toNat)
  case atStart=>exact ⟨0,Nat.zero_le _,rfl,fun j _ _ hj=>absurd hj (Nat.not_lt_zero _),KR⟩
  case round=>
   clear KR
   obtain ⟨k,hk,rfl,hall,hw⟩:=hrel
   by_cases hlt:k<xs.length
   ·have hlt' : k<ys.length:=by rw [← HL.out];exact hlt
    obtain ⟨b,off,rfl,hc⟩:=HX.out wr hw k hlt
    obtain ⟨b', off', rfl,hc'⟩:=HY.out wr hw k hlt'
    have i1:(0:Int)≤(k:Int):=by omega
    have i2:(k:Int)<(xs.length:Int):=by omega
    have i3:(k:Int)<(ys.length:Int):=by omega
    obtain ⟨u,hu⟩:∃ u,u=xs[k]:=⟨_,rfl⟩
    obtain ⟨u', hu'⟩:∃ u', u' = ys[k]:=⟨_,rfl⟩
    rw [← hu] at hc
    rw [← hu'] at hc'
    by_cases he:u=u'
    ·have HE:Hid (xs[k]=ys[k]):=by show _=_;rw [← hu,← hu', he]
     clear hu hu' HX HY
     subst he
     go_upto_region 6 with fail
     go_quiet (fail)
     go_wp2
     go_roundw
     case rel=>exact ⟨k+1,by omega,by go_num,fun j h1 h2 hj=>by
      by_cases e:j=k
      ·subst e;exact HE.out
      ·exact hall.out j h1 h2 (by omega),hw.drewN _⟩
     case measure=>simp [intOf];omega
    ·have HE:Hid (eqI xs ys=false):=eqI_no hlt hlt' (by rw [← hu,← hu'];exact he)
     clear hu hu' HX HY
     go_upto_region 6 with fail
     go_quiet (fail)
     go_wp2
     go_ret
     exact ⟨ret_bool HE.out.symm,hw.drewN _⟩
   ·obtain rfl:k=xs.length:=by omega
    have HE:Hid (eqI xs ys=true):=eqI_yes HL.out (fun j h1 h2=>hall.out j h1 h2 h1)
    clear HX HY hall
    go_wp2
    go_ret
    exact ⟨ret_bool HE.out.symm,hw⟩
 ·have HE:Hid (eqI xs ys=false):=by show _=_;unfold eqI;simp;rintro rfl;exact hl rfl
  have hl' : ¬ (xs.length:Int)=(ys.length:Int):=by omega
  clear hx hy hl
  go_enter Try.func48,Try.ntmps48
  go_wp2
  go_ret
  exact ⟨ret_bool HE.out.symm,Kept.refl _ _⟩
theorem eqN_no {x y:Nd} (h:¬ (x.1=y.1∧x.2.2.1=y.2.2.1∧x.2.2.2.1=y.2.2.2.1∧x.2.2.2.2=y.2.2.2.2)):eqN x y=false:=by
 unfold eqN;simp;rintro rfl;exact h ⟨rfl,rfl,rfl,rfl⟩
theorem eqN_same {x y:Nd} (h:x.1=y.1∧x.2.2.1=y.2.2.1∧x.2.2.2.1=y.2.2.2.1∧x.2.2.2.2=y.2.2.2.2):eqN x y=eqI x.2.1 y.2.1:=by
 obtain ⟨a,b,c,d,e⟩:=x
 obtain ⟨a', b', c', d', e'⟩:=y
 obtain ⟨h1,h2,h3,h4⟩:=h
 simp only at h1 h2 h3 h4
 subst h1 h2 h3 h4
 unfold eqN eqI
 simp
set_option maxHeartbeats 2000000 in
theorem sameNode_any {w:World} {x y:Nd} {ao bo:Option Addr} {ac bc:Nat} (hx:Arg w ao x.2.1 ac) (hy:Arg w bo y.2.1 bc) :
  Calls Try.prog 24 #[nodeV x ao ac,nodeV y bo bc] w fun e w' => e=.returned (.bool (eqN x y))∧Same0 w w' := by
 obtain ⟨W1,hW1⟩:∃ W1,W1=(w.alloc (.cells #[.int .i64 x.1,.slice ao x.2.1.length ac,.int .i64 x.2.2.1,.bool x.2.2.2.1,.int .i64 x.2.2.2.2] 45)).alloc (.cells #[.int .i64 y.1,.slice bo y.2.1.length bc,.int .i64 y.2.2.1,.bool y.2.2.2.1,.int .i64 y.2.2.2.2] 45):=⟨_,rfl⟩
 have K1:Same0 w W1:=by rw [hW1];exact ((Kept.refl _ w).alloc _).alloc _
 obtain ⟨x0,x1,x2,x3,x4⟩:=box_node' w x ao ac (show Same0 _ W1 by rw [hW1];exact (Kept.refl _ _).alloc _)
 obtain ⟨y0,y1,y2,y3,y4⟩:=box_node' _ y bo bc (show Same0 _ W1 by rw [hW1];exact Kept.refl _ _)
 simp only [World.size_alloc] at y0 y1 y2 y3 y4
 have hxm:x.2.1.length≤maxLen:=by have:=hx.size;unfold maxLen;omega
 have CI:=sameInts_any ac bc (hx.at'.same K1) (hy.at'.same K1) hxm
 have HK:Hid (∀ ww,Same0 W1 ww→Same0 w ww):=fun ww hk=>K1.trans' hk
 have HW:Hid (Same0 W1 W1):=Kept.refl _ _
 have HE:Hid (x.1=y.1→x.2.2.1=y.2.2.1→x.2.2.2.1=y.2.2.2.1→x.2.2.2.2=y.2.2.2.2→eqN x y=eqI x.2.1 y.2.1):=fun a b c d=>eqN_same ⟨a,b,c,d⟩
 have HN:Hid (¬ (x.1=y.1∧x.2.2.1=y.2.2.1∧x.2.2.2.1=y.2.2.2.1∧x.2.2.2.2=y.2.2.2.2)→eqN x y=false):=fun h=>eqN_no h
 clear hx hy K1
 generalize eqN x y=R at *
 generalize eqI x.2.1 y.2.1=I at *
 obtain ⟨sx,ax,mx,px,tx⟩:=x
 obtain ⟨sy,ay,my,py,ty⟩:=y
 simp only at *
 have go:∀ b:Bool,(sx=sy∧mx=my∧px=py∧tx=ty)∨¬ (sx=sy∧mx=my∧px=py∧tx=ty):=fun _=>Classical.em _
 by_cases e1:sx=sy
 ·subst e1
  by_cases e2:mx=my
  ·subst e2
   by_cases e3:px=py
   ·subst e3
    by_cases e4:tx=ty
    ·subst e4
     have HR:Hid (R=I):=HE.out rfl rfl rfl rfl
     clear HE HN go
     go_enter Try.func24,Try.ntmps24
     go_upto_region 1 with fail
     rw [← hW1]
     clear hW1
     go_wp2_with (first | (go_at_call 48;refine CI.mono ?_;rintro e w3 ⟨rfl,k3⟩))
     go_ret
     exact ⟨ret_bool HR.out.symm,HK.out _ k3⟩
    ·have HR:Hid (R=false):=HN.out (fun h=>e4 h.2.2.2)
     clear HE HN go
     go_enter Try.func24,Try.ntmps24
     go_upto_region 1 with fail
     rw [← hW1]
     clear hW1
     go_wp2
     go_ret
     exact ⟨ret_bool HR.out.symm,HK.out _ HW.out⟩
   ·have HR:Hid (R=false):=HN.out (fun h=>e3 h.2.2.1)
    clear HE HN go
    go_enter Try.func24,Try.ntmps24
    go_upto_region 1 with fail
    rw [← hW1]
    clear hW1
    go_wp2
    go_ret
    exact ⟨ret_bool HR.out.symm,HK.out _ HW.out⟩
  ·have HR:Hid (R=false):=HN.out (fun h=>e2 h.2.1)
   clear HE HN go
   go_enter Try.func24,Try.ntmps24
   go_upto_region 1 with fail
   rw [← hW1]
   clear hW1
   go_wp2
   go_ret
   exact ⟨ret_bool HR.out.symm,HK.out _ HW.out⟩
 ·have HR:Hid (R=false):=HN.out (fun h=>e1 h.1)
  clear HE HN go
  go_enter Try.func24,Try.ntmps24
  go_upto_region 1 with fail
  rw [← hW1]
  clear hW1
  go_wp2
  go_ret
  exact ⟨ret_bool HR.out.symm,HK.out _ HW.out⟩
def NsW (w:World) (ao:Option Addr) (l:List Nd):Prop:=l=[]∨∃ nb noff,ao=some ⟨nb,noff,none⟩∧nb<w.heap.size∧∀ j (hj:j<l.length),∃ xo xc,w.cell? ⟨nb,noff+j * 5,none⟩=some (.int .i64 l[j].1)∧w.cell? ⟨nb,noff+j * 5+1,none⟩=some (.slice xo l[j].2.1.length xc)∧w.cell? ⟨nb,noff+j * 5+2,none⟩=some (.int .i64 l[j].2.2.1)∧w.cell? ⟨nb,noff+j * 5+3,none⟩=some (.bool l[j].2.2.2.1)∧w.cell? ⟨nb,noff+j * 5+4,none⟩=some (.int .i64 l[j].2.2.2.2)∧Arg w xo l[j].2.1 xc
theorem NsM.weak {B:Nat→Prop} {w:World} {ao:Option Addr} {l:List Nd} (h:NsM B w ao l):NsW w ao l:=by
 refine h.imp id ?_
 rintro ⟨b,off,rfl,hlt,hc⟩
 refine ⟨b,off,rfl,hlt,fun j hj=>?_⟩
 obtain ⟨xo,xc,n0,n1,n2,n3,n4,n5, -⟩:=hc j hj
 exact ⟨xo,xc,n0,n1,n2,n3,n4,n5.1⟩
theorem NsW.same {w w' : World} {ao:Option Addr} {l:List Nd} (h:NsW w ao l) (hk:Same0 w w'):NsW w' ao l:=by
 refine h.imp id ?_
 rintro ⟨nb,noff,rfl,hlt,hc⟩
 have t:∀ o,w'.cell? ⟨nb,o,none⟩=w.cell? ⟨nb,o,none⟩:=fun o=>hk.cell (p:=⟨nb,o,none⟩) hlt (fun f=>f)
 refine ⟨nb,noff,rfl,Nat.lt_of_lt_of_le hlt hk.size,fun j hj=>?_⟩
 obtain ⟨xo,xc,n0,n1,n2,n3,n4,n5⟩:=hc j hj
 exact ⟨xo,xc,(t _).trans n0,(t _).trans n1,(t _).trans n2,(t _).trans n3,(t _).trans n4,⟨n5.at'.same hk,n5.cap', n5.nil,n5.size⟩⟩
def eqL (l l' : List Nd):Bool:=decide (l=l')
theorem eqL_self (l:List Nd):eqL l l=true:=by unfold eqL;simp
set_option maxHeartbeats 2000000 in
theorem sameNodes_any {w:World} {ao bo:Option Addr} {ac bc:Nat} {l l' : List Nd} (h:NsW w ao l) (h' : NsW w bo l') (hm:l.length≤maxLen) :
  Calls Try.prog 27 #[.slice ao l.length ac,.slice bo l'.length bc] w fun e w' => e=.returned (.bool (eqL l l'))∧Same0 w w' := by
 unfold maxLen at hm
 by_cases hl:l.length=l'.length
 ·have hl' : (l.length:Int)=(l'.length:Int):=by omega
  have HX:Hid (∀ ww,Same0 w ww→NsW ww ao l):=fun ww hw=>h.same hw
  have HY:Hid (∀ ww,Same0 w ww→NsW ww bo l'):=fun ww hw=>h'.same hw
  have HL:Hid (l.length=l'.length):=hl
  have KR:Same0 w w:=Kept.refl _ _
  clear h h' hl
  go_enter Try.func27,Try.ntmps27
  go_wp2
  go_loopw [5] (fun i wr=>∃ k:Nat,k≤l.length∧i=.int .i64 k∧Hid (∀ j (h1:j<l.length) (h2:j<l'.length),j<k→l[j]=l'[j])∧Same0 w wr) (fun i _=>l.length-(intOf i).toNat)
  case atStart=>exact ⟨0,Nat.zero_le _,rfl,fun j _ _ hj=>absurd hj (Nat.not_lt_zero _),KR⟩
  case round=>
   clear KR
   obtain ⟨k,hk,rfl,hall,hw⟩:=hrel
   by_cases hlt:k<l.length
   ·have hlt' : k<l'.length:=by rw [← HL.out];exact hlt
    have i1:(0:Int)≤(k:Int):=by omega
    have i2:(k:Int)<(l.length:Int):=by omega
    have i3:(k:Int)<(l'.length:Int):=by omega
    rcases HX.out wr.drew (hw.drew) with e | ⟨mb,moff,e,hmb,hm'⟩
    ·rw [e] at hlt;simp at hlt
    subst e
    rcases HY.out wr.drew (hw.drew) with e | ⟨nb,noff,e,hnb,hn⟩
    ·rw [e] at hlt'; simp at hlt'
    subst e
    obtain ⟨xo,xc,m0,m1,m2,m3,m4,m5⟩:=hm' k hlt
    obtain ⟨yo,yc,n0,n1,n2,n3,n4,n5⟩:=hn k hlt'
    have CS:=sameNode_any m5 n5
    have HEY:Hid (eqN l[k] l'[k]=true→l[k]=l'[k]):=fun e=>by unfold eqN at e;simpa using e
    have HEN:Hid (eqN l[k] l'[k]=false→eqL l l' = false):=fun e=>by
     unfold eqN at e
     unfold eqL
     simp at e ⊢
     rintro rfl
     exact e rfl
    clear hm' hn m5 n5
    generalize eqN l[k] l'[k]=R at *
    go_upto_region 6 with fail
    go_region_with (first | (go_at_call 24;refine CS.mono ?_;rintro e w8 ⟨rfl,k8⟩))
    all_goals
     have hw8:Same0 w w8:=Same0.trans' (Kept.drew hw) k8
     clear m0 m1 m2 m3 m4 n0 n1 n2 n3 n4 CS
     cases R
     ·have HF:Hid (eqL l l' = false):=HEN.out rfl
      go_wp2
      go_ret
      exact ⟨ret_bool HF.out.symm,hw8⟩
     ·have HF:Hid (∀ j (h1:j<l.length) (h2:j<l'.length),j<k+1→l[j]=l'[j]):=fun j h1 h2 hj=>by
       by_cases e:j=k
       ·subst e;exact HEY.out rfl
       ·exact hall.out j h1 h2 (by omega)
      go_wp2
      go_roundw
      case rel=>first | exact ⟨k+1,by omega,by go_num,HF,hw8⟩ | ((repeat apply Exists.intro);exact ⟨⟨k+1,by omega,by go_num,HF,hw8⟩,rfl⟩)
      case measure=>simp [intOf];omega
   ·obtain rfl:k=l.length:=by omega
    have HE:Hid (eqL l l' = true):=by
     show _=_
     unfold eqL
     simp
     exact List.ext_getElem HL.out (fun j h1 h2=>hall.out j h1 h2 h1)
    clear hall
    go_wp2
    go_ret
    exact ⟨ret_bool HE.out.symm,hw⟩
 ·have HE:Hid (eqL l l' = false):=by show _=_;unfold eqL;simp;rintro rfl;exact hl rfl
  have hl' : ¬ (l.length:Int)=(l'.length:Int):=by omega
  have KR:Hid (Same0 w w):=Kept.refl _ _
  clear h h' hl
  go_enter Try.func27,Try.ntmps27
  go_wp2
  go_ret
  exact ⟨ret_bool HE.out.symm,KR.out⟩
def RingQ (l:List Nd) (w:World) (e:Ending) (w' : World):Prop:=∃ b:Bool,e=.returned (.bool b)∧(b=true ↔ ¬ Ac l)∧Same0 w w'
end Go.Proofs.Ytcbplgfkgkefeaa
namespace Go.Proofs.Ytcbplgfkgkefeaa
set_option linter.unusedVariables false
def dnL (l:List Nd) (a:Nat):List Int:=match l[a]? with
 | some x=>downL x
 | none=>[]
theorem dnL_at {l:List Nd} {a:Nat} (h:a<l.length):dnL l a=downL l[a]:=by simp [dnL,h]
theorem ed_iff {l:List Nd} {a b:Nat}:Ed l a b ↔ a<l.length∧(b:Int)∈dnL l a:=by
 constructor
 ·rintro ⟨h,hm⟩;exact ⟨h,by rw [dnL_at h];exact hm⟩
 ·rintro ⟨h,hm⟩;exact ⟨h,by rw [dnL_at h] at hm;exact hm⟩
def sumC (R:Nat→List Int) (b:Nat):Nat→Nat
 | 0=>0
 | n+1=>sumC R b n+(R n).count (b:Int)
theorem sumC_congr {R R' : Nat→List Int} {b:Nat}:∀ {n:Nat},(∀ a,a<n→(R a).count (b:Int)=(R' a).count (b:Int))→sumC R b n=sumC R' b n
 | 0,_=>rfl
 | n+1,h=>by
  unfold sumC
  rw [sumC_congr (fun a ha=>h a (by omega)),h n (by omega)]
theorem sumC_zero {R:Nat→List Int} {b:Nat}:∀ {n:Nat},sumC R b n=0→∀ a,a<n→(b:Int) ∉ R a
 | 0,_,a,ha=>absurd ha (Nat.not_lt_zero _)
 | n+1,h,a,ha=>by
  unfold sumC at h
  by_cases e:a=n
  ·subst e
   exact List.count_eq_zero.1 (by omega)
  ·exact sumC_zero (n:=n) (by omega) a (by omega)
theorem sumC_pos {R:Nat→List Int} {b:Nat}:∀ {n:Nat},sumC R b n≠0→∃ a,a<n∧(b:Int)∈R a
 | 0,h=>absurd rfl h
 | n+1,h=>by
  unfold sumC at h
  by_cases e:sumC R b n=0
  ·exact ⟨n,by omega,List.count_pos_iff.1 (by omega)⟩
  ·obtain ⟨a,h1,h2⟩:=sumC_pos (n:=n) e
   exact ⟨a,by omega,h2⟩
def lose (R:Nat→List Int) (c:Nat) (r:List Int):Nat→List Int:=fun a=>if a=c then r else R a
theorem sumC_lose {R:Nat→List Int} {c:Nat} {z:Int} {r:List Int} (hR:R c=z :: r) (b:Nat):∀ {n:Nat},c<n→sumC R b n=sumC (lose R c r) b n+(if z=(b:Int) then 1 else 0)
 | 0,h=>absurd h (Nat.not_lt_zero _)
 | n+1,h=>by
  unfold sumC
  by_cases e:c=n
  ·subst e
   rw [sumC_congr (R:=R) (R' := lose R c r) (fun a ha=>by unfold lose;rw [if_neg (by omega)])]
   have:lose R c r c=r:=by unfold lose;rw [if_pos rfl]
   rw [this,hR,List.count_cons]
   by_cases q:z=(b:Int)
   ·simp [q];omega
   ·simp [q]
  ·rw [sumC_lose hR b (n:=n) (by omega)]
   have:lose R c r n=R n:=by unfold lose;rw [if_neg (by omega)]
   rw [this]
   omega
theorem nd_snoc {T:List Nat} (h:∀ (p p' b:Nat),p<p' → T[p]? = some b→T[p']? = some b→False) {x:Nat} (hx:x ∉ T):∀ (p p' b:Nat),p<p' → (T ++ [x])[p]? = some b→(T ++ [x])[p']? = some b→False:=by
 intro p p' b hp h1 h2
 have hl:=(List.getElem?_eq_some_iff.1 h2).1
 simp at hl
 rw [List.getElem?_append_left (by omega)] at h1
 by_cases e:p' < T.length
 ·rw [List.getElem?_append_left e] at h2
  exact h p p' b hp h1 h2
 ·have:p' = T.length:=by omega
  subst this
  simp at h2
  subst h2
  exact hx (List.mem_of_getElem? h1)
structure Kh (l:List Nd) (P:Nat→Prop) (R:Nat→List Int) (lead:List Int) (T:List Nat):Prop where
 len:lead.length=l.length
 val:∀ b:Nat,b<l.length→lead[b]? = some ((sumC R b l.length:Nat):Int)
 mem:∀ b:Nat,b∈T ↔ lead[b]? = some 0
 cnt:T.length=lead.count 0
 ord:∀ (p b:Nat),T[p]? = some b→∀ a,Ed l a b→∃ p' : Nat,p' < p∧T[p']? = some a
 rest:∀ a,a<l.length→¬ P a→R a=dnL l a
 begun:∀ a,P a→a∈T
 nd:∀ (p p' b:Nat),p<p' → T[p]? = some b→T[p']? = some b→False
theorem Kh.le {l:List Nd} {P:Nat→Prop} {R:Nat→List Int} {lead:List Int} {T:List Nat} (h:Kh l P R lead T):T.length≤l.length:=by
 rw [h.cnt,← h.len];exact List.count_le_length
theorem Kh.lt {l:List Nd} {P:Nat→Prop} {R:Nat→List Int} {lead:List Int} {T:List Nat} (h:Kh l P R lead T) {b:Nat} (hb:b∈T):b<l.length:=by
 have:=(List.getElem?_eq_some_iff.1 ((h.mem b).1 hb)).1
 rw [h.len] at this;exact this
theorem Kh.more {l:List Nd} {P P' : Nat→Prop} {R:Nat→List Int} {lead:List Int} {T:List Nat} (h:Kh l P R lead T) (h1:∀ a,P a→P' a) (h2:∀ a,P' a→a∈T):Kh l P' R lead T:=
 ⟨h.len,h.val,h.mem,h.cnt,h.ord,fun a ha hn=>h.rest a ha (fun q=>hn (h1 a q)),h2,h.nd⟩
theorem Kh.strike {l:List Nd} {P:Nat→Prop} {R:Nat→List Int} {lead:List Int} {T:List Nat} (h:Kh l P R lead T) {c b:Nat} {r:List Int} (hP:P c) (hR:R c=(b:Int) :: r) (hb:b<l.length) :
  ∃ v:Int,lead[b]? = some v∧1≤v∧((v-1=0∧Kh l P (lose R c r) (lead.set b (v-1)) (T ++ [b]))∨(v-1≠0∧Kh l P (lose R c r) (lead.set b (v-1)) T)):=by
 have hc:c<l.length:=h.lt (h.begun c hP)
 have hv:=h.val b hb
 have hs:=sumC_lose hR b hc
 rw [if_pos rfl] at hs
 have hbl:b<lead.length:=by rw [h.len];exact hb
 have hset:∀ j,(lead.set b ((sumC R b l.length:Nat)-1:Int))[j]? = if j=b then some ((sumC R b l.length:Nat)-1:Int) else lead[j]? := fun j=>by
  rw [List.getElem?_set]
  by_cases e:b=j
  ·subst e;simp [hbl]
  ·rw [if_neg e,if_neg (Ne.symm e)]
 have hval:∀ j,j<l.length→(lead.set b ((sumC R b l.length:Nat)-1:Int))[j]? = some ((sumC (lose R c r) j l.length:Nat):Int):=fun j hj=>by
  rw [hset]
  by_cases e:j=b
  ·subst e;rw [if_pos rfl];congr 1;omega
  ·rw [if_neg e,h.val j hj]
   have:=sumC_lose hR j hc
   rw [if_neg (by omega)] at this
   rw [this];rfl
 have hrest:∀ a,a<l.length→¬ P a→lose R c r a=dnL l a:=fun a ha hn=>by
  have:a≠c:=fun e=>hn (e ▸ hP)
  unfold lose;rw [if_neg this];exact h.rest a ha hn
 have hvb:lead[b]=((sumC R b l.length:Nat):Int):=by
  have:=hv;rw [List.getElem?_eq_getElem hbl] at this;simpa using this
 refine ⟨((sumC R b l.length:Nat):Int),hv,by omega,?_⟩
 have hnT:b ∉ T:=fun q=>by
  have:=(h.mem b).1 q
  rw [hv] at this
  simp at this
  omega
 by_cases e:((sumC R b l.length:Nat):Int)-1=0
 ·refine .inl ⟨e,⟨by simp [h.len],hval,fun j=>?_,?_,?_,hrest,fun a ha=>List.mem_append.2 (.inl (h.begun a ha)),nd_snoc h.nd hnT⟩⟩
  ·rw [hset]
   by_cases q:j=b
   ·subst q;rw [if_pos rfl,e];simp
   ·rw [if_neg q,← h.mem];simp [q]
  ·rw [List.count_set hbl,List.length_append,h.cnt,hvb,e]
   have:((((sumC R b l.length:Nat):Int)) == 0)=false:=by simp;omega
   rw [this]
   simp
  ·intro p x hp a ea
   by_cases q:p<T.length
   ·rw [List.getElem?_append_left q] at hp
    obtain ⟨p', h1,h2⟩:=h.ord p x hp a ea
    exact ⟨p', h1,by rw [List.getElem?_append_left (by omega)];exact h2⟩
   ·have hpe:p=T.length:=by
     have:=(List.getElem?_eq_some_iff.1 hp).1
     simp at this;omega
    subst hpe
    simp at hp
    subst hp
    have hz:sumC (lose R c r) b l.length=0:=by omega
    obtain ⟨ha,hm⟩:=ed_iff.1 ea
    have hPa:P a:=by
     by_cases q:P a
     ·exact q
     ·exact absurd (by rw [hrest a ha q];exact hm) (sumC_zero hz a ha)
    obtain ⟨p', hp', hx⟩:=List.mem_iff_getElem.1 (h.begun a hPa)
    exact ⟨p', hp', by rw [List.getElem?_append_left hp', List.getElem?_eq_getElem hp', hx]⟩
 ·refine .inr ⟨e,⟨by simp [h.len],hval,fun j=>?_,?_,h.ord,hrest,h.begun,h.nd⟩⟩
  ·rw [hset]
   by_cases q:j=b
   ·subst q;rw [if_pos rfl];simp [hnT];omega
   ·rw [if_neg q,← h.mem]
  ·rw [List.count_set hbl,h.cnt,hvb]
   have h1:((((sumC R b l.length:Nat):Int)) == 0)=false:=by simp;omega
   have h2:((((sumC R b l.length:Nat):Int))-1 == 0)=false:=by simp;omega
   rw [h1,h2]
   simp
theorem idx_le:∀ (T:List Nat) (p a:Nat),T[p]? = some a→T.idxOf a≤p
 | [],p,a,h=>by simp at h
 | x :: T,0,a,h=>by
  simp at h
  subst h
  simp
 | x :: T,p+1,a,h=>by
  have:=idx_le T p a (by simpa using h)
  rw [List.idxOf_cons]
  cases x == a <;> simp <;> omega
theorem Kh.done {l:List Nd} {P:Nat→Prop} {R:Nat→List Int} {lead:List Int} {T:List Nat} (h:Kh l P R lead T) (hin:InL l) (hR:∀ a,a∈T→R a=[]):T.length<l.length ↔ ¬ Ac l:=by
 constructor
 ·intro hlt hac
  obtain ⟨r,hr⟩:=hac
  -- a node that is left has one above it that is left
  have up:∀ b,b<l.length→b ∉ T→∃ a,a<l.length∧a ∉ T∧r b<r a:=fun b hb hn=>by
   have h1:sumC R b l.length≠0:=fun e=>hn ((h.mem b).2 (by rw [h.val b hb,e];rfl))
   obtain ⟨a,ha,hm⟩:=sumC_pos h1
   have hna:a ∉ T:=fun q=>by rw [hR a q] at hm;cases hm
   refine ⟨a,ha,hna,hr a b (ed_iff.2 ⟨ha,?_⟩)⟩
   rw [← h.rest a ha (fun q=>hna (h.begun a q))];exact hm
  have top:∀ n,∃ M,∀ i,i<n→r i≤M:=fun n=>by
   induction n with
   | zero=>exact ⟨0,fun i h=>absurd h (Nat.not_lt_zero _)⟩
   | succ n ih=>
    obtain ⟨M,hM⟩:=ih
    refine ⟨max M (r n),fun i hi=>?_⟩
    by_cases e:i=n
    ·subst e;omega
    ·have:=hM i (by omega);omega
  obtain ⟨M,hM⟩:=top l.length
  have no:∀ n b,M-r b<n→b<l.length→b ∉ T→False:=fun n=>by
   induction n with
   | zero=>intro b h;omega
   | succ n ih=>
    intro b hb hl hn
    obtain ⟨a,ha,hna,hra⟩:=up b hl hn
    have:=hM a ha
    exact ih a (by omega) ha hna
  have:∃ b,b<l.length∧b ∉ T:=by
   by_cases q:∃ b,b<l.length∧b ∉ T
   ·exact q
   ·exfalso
    have hall:∀ x∈lead,x=0:=fun x hx=>by
     obtain ⟨b,hb,rfl⟩:=List.mem_iff_getElem.1 hx
     have hb' : b<l.length:=by rw [← h.len];exact hb
     have hm:b∈T:=by
      by_cases q' : b∈T
      ·exact q'
      ·exact absurd ⟨b,hb', q'⟩ q
     have:=(h.mem b).1 hm
     rw [List.getElem?_eq_getElem hb] at this
     simpa using this
    have:lead.count 0=lead.length:=List.count_eq_length.2 (fun b hb=>(hall b hb).symm)
    have h1:=h.cnt
    have h2:=h.len
    omega
  obtain ⟨b,hb,hn⟩:=this
  exact no (M-r b+1) b (by omega) hb hn
 ·intro hac
  by_cases e:T.length<l.length
  ·exact e
  ·exfalso
   apply hac
   have hle:=h.le
   have hcl:lead.count 0=lead.length:=by have h1:=h.cnt;have h2:=h.len;omega
   have hall:∀ b,b<l.length→b∈T:=fun b hb=>by
    have hb' : b<lead.length:=by rw [h.len];exact hb
    have:=List.count_eq_length.1 hcl lead[b] (List.getElem_mem hb')
    exact (h.mem b).2 (by rw [List.getElem?_eq_getElem hb', ← this])
   refine ⟨fun x=>T.length-T.idxOf x,fun a b ea=>?_⟩
   have hb:b<l.length:=by
    have:=(hin a ea.1 _ ea.2).2
    omega
   have hbT:=hall b hb
   have hi:=List.idxOf_lt_length_of_mem hbT
   have hT:T[T.idxOf b]? = some b:=by rw [List.getElem?_eq_getElem hi,List.getElem_idxOf hi]
   obtain ⟨p', h1,h2⟩:=h.ord _ b hT a ea
   have h3:T.idxOf a≤p' := idx_le T p' a h2
   show T.length-T.idxOf b<T.length-T.idxOf a
   omega
def Ld (l:List Nd) (k q:Nat) (lead:List Int):Prop:=lead.length=l.length∧∀ b:Nat,b<l.length→lead[b]? = some (((sumC (dnL l) b k+((dnL l k).take q).count (b:Int):Nat)):Int)
theorem Ld.start (l:List Nd):Ld l 0 0 (List.replicate l.length 0):=⟨by simp,fun b hb=>by simp [hb,sumC]⟩
theorem Ld.next {l:List Nd} {k:Nat} {lead:List Int} (h:Ld l k (dnL l k).length lead):Ld l (k+1) 0 lead:=⟨h.1,fun b hb=>by
 rw [h.2 b hb]
 simp [sumC]⟩
theorem Ld.one {l:List Nd} {k q b:Nat} {lead:List Int} (h:Ld l k q lead) (hq:q<(dnL l k).length) (hz:(dnL l k)[q]=(b:Int)) (hb:b<l.length):∃ v:Int,lead[b]? = some v∧0≤v∧Ld l k (q+1) (lead.set b (v+1)):=by
 refine ⟨_,h.2 b hb,by omega,by simp [h.1],fun j hj=>?_⟩
 have hl:b<lead.length:=by rw [h.1];exact hb
 rw [List.getElem?_set,List.take_succ_eq_append_getElem hq,List.count_append,hz]
 by_cases e:b=j
 ·subst e
  rw [if_pos rfl,if_pos hl]
  simp
  omega
 ·rw [if_neg e,h.2 j hj]
  have:(b:Int)≠(j:Int):=by omega
  simp [this]
theorem Ld.bound {l:List Nd} {k q:Nat} {lead:List Int} (h:Ld l k q lead) (few:∀ x∈l,x.2.1.length≤6) (hk:k≤l.length):∀ (b:Nat) (v:Int),lead[b]? = some v→v≤6 * (l.length:Int)+6:=by
 intro b v hv
 have hb:b<l.length:=by have:=(List.getElem?_eq_some_iff.1 hv).1;rw [h.1] at this;exact this
 rw [h.2 b hb] at hv
 have hd:∀ a,(dnL l a).length≤6:=fun a=>by
  unfold dnL
  split
  ·rename_i x hx
   have:=few x (List.mem_of_getElem? hx)
   unfold downL
   split
   ·simp
   ·exact this
  ·simp
 have hs:∀ n,sumC (dnL l) b n≤6 * n:=fun n=>by
  induction n with
  | zero=>simp [sumC]
  | succ n ih=>
   have h1:=List.count_le_length (a:=(b:Int)) (l:=dnL l n)
   have h2:=hd n
   unfold sumC
   omega
 have h1:=hs k
 have h2:=List.count_le_length (a:=(b:Int)) (l:=(dnL l k).take q)
 have h3:=hd k
 have h4:((dnL l k).take q).length≤6:=by simp;omega
 simp only [Option.some.injEq] at hv
 omega
def Zr (lead:List Int) (k:Nat) (T:List Nat):Prop:=(∀ b:Nat,b∈T ↔ b<k∧lead[b]? = some 0)∧T.length=(lead.take k).count 0∧∀ (p p' b:Nat),p<p' → T[p]? = some b→T[p']? = some b→False
theorem Zr.start (lead:List Int):Zr lead 0 []:=⟨fun b=>by simp,by simp,fun p p' b _ h=>by simp at h⟩
theorem Zr.yes {lead:List Int} {k:Nat} {T:List Nat} (h:Zr lead k T) (hk:lead[k]? = some 0):Zr lead (k+1) (T ++ [k]):=by
 obtain ⟨hl,hv⟩:=List.getElem?_eq_some_iff.1 hk
 refine ⟨fun b=>?_,?_,nd_snoc h.2.2 (fun q=>by have:=((h.1 k).1 q).1;omega)⟩
 ·rw [List.mem_append,h.1]
  simp
  constructor
  ·rintro (⟨q1,q2⟩ | rfl)
   ·exact ⟨by omega,q2⟩
   ·exact ⟨by omega,hk⟩
  ·rintro ⟨q1,q2⟩
   by_cases e:b=k
   ·exact .inr e
   ·exact .inl ⟨by omega,q2⟩
 ·rw [List.take_succ_eq_append_getElem hl,List.count_append,List.length_append,h.2.1,hv]
  simp
theorem Zr.no {lead:List Int} {k:Nat} {T:List Nat} (h:Zr lead k T) (hl:k<lead.length) (hk:lead[k]≠0):Zr lead (k+1) T:=by
 refine ⟨fun b=>?_,?_,h.2.2⟩
 ·rw [h.1]
  constructor
  ·rintro ⟨q1,q2⟩;exact ⟨by omega,q2⟩
  ·rintro ⟨q1,q2⟩
   refine ⟨?_,q2⟩
   by_cases e:b=k
   ·subst e;rw [List.getElem?_eq_getElem hl] at q2;simp at q2;exact absurd q2 hk
   ·omega
 ·rw [List.take_succ_eq_append_getElem hl,List.count_append,h.2.1]
  simp [hk]
theorem Zr.le {lead:List Int} {k:Nat} {T:List Nat} (h:Zr lead k T):T.length≤k:=by
 rw [h.2.1]
 have:=List.count_le_length (a:=(0:Int)) (l:=lead.take k)
 simp at this;omega
theorem Kh.start {l:List Nd} {lead:List Int} {T:List Nat} (h1:Ld l l.length 0 lead) (h2:Zr lead l.length T):Kh l (fun _=>False) (dnL l) lead T:=by
 have hv:∀ b,b<l.length→lead[b]? = some ((sumC (dnL l) b l.length:Nat):Int):=fun b hb=>by
  rw [h1.2 b hb];simp
 have hm:∀ b,b∈T ↔ lead[b]? = some 0:=fun b=>by
  rw [h2.1]
  exact ⟨fun q=>q.2,fun q=>⟨by have:=(List.getElem?_eq_some_iff.1 q).1;rw [h1.1] at this;exact this,q⟩⟩
 refine ⟨h1.1,hv,hm,?_,?_,fun a _ _=>rfl,fun a f=>f.elim,h2.2.2⟩
 ·rw [h2.2.1,List.take_of_length_le (by rw [h1.1];exact Nat.le_refl _)]
 ·intro p b hp a ea
  exfalso
  have hb:=(hm b).1 (List.mem_of_getElem? hp)
  have hbl:b<l.length:=by have:=(List.getElem?_eq_some_iff.1 hb).1;rw [h1.1] at this;exact this
  rw [hv b hbl] at hb
  have hz:sumC (dnL l) b l.length=0:=by simpa using hb
  obtain ⟨ha,hme⟩:=ed_iff.1 ea
  exact sumC_zero hz a ha hme
end Go.Proofs.Ytcbplgfkgkefeaa
