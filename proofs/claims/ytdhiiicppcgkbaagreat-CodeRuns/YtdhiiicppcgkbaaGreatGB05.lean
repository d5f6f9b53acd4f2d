import Derived.Test.YtdhiiicppcgkbaaGreatGB04
import Derived.Laws.CopyOwn
import Derived.Test.YtdhiiicppcgkbaaGreatGB03
import Derived.Laws.AppendOwnNone
namespace Go.Proofs.YtdhiiicppcgkbaaGreat
set_option maxRecDepth 100000
set_option linter.unusedVariables false
open Go.RowKit
attribute [local go_sem ↓] Go.wp_at_zero Go.wp_at_succ
structure Part where
 ao:Option Addr
 cap:Nat
 xs:List Int
def PartsAt (w:World) (pb:Nat) (ps:List Part):Prop:=pb<w.heap.size∧∀ i (h:i<ps.length),w.cell? ⟨pb,i,none⟩=some (.slice ps[i].ao ps[i].xs.length ps[i].cap)∧IntsAt w ps[i].ao ps[i].xs
theorem PartsAt.same {w w' : World} {pb:Nat} {ps:List Part} (h:PartsAt w pb ps) (hk:Same0 w w'):PartsAt w' pb ps:=
 ⟨Nat.lt_of_lt_of_le h.1 hk.size,fun i hi=>⟨(hk.cell (p:=⟨pb,i,none⟩) h.1 (fun f=>f)).trans (h.2 i hi).1,(h.2 i hi).2.same hk⟩⟩
theorem Same0.of {w w' : World} (h:Below w.heap.size w w'):Same0 w w' := ⟨h.os,h.tape,h.output,h.size,fun k hk _=>h.block k hk⟩
def Joins (g N m:Nat) (xs:List Int) (w wr:World):Prop:=∃ cur:List Value,wr.heap[g]? = some (.cells cur.toArray 3 (0,0))∧cur.length=N∧cur.take m=iv xs∧xs.length=m∧Same0 w wr
theorem Joins.start {g N:Nat} {v:Value} {ys:List Value} {w wr:World} (hv:v=.slice (some ⟨g,0,none⟩) N N) (h:wr.ownsRow w.heap.size 3 1 v N ys) (hs:Same0 w wr):Joins g N 0 [] w wr:=by
 rcases h.2 with ⟨e,_⟩ | ⟨g', cap,cur,e,hb,hg,_,_,hsz,_⟩
 ·rw [hv] at e;cases e
 ·rw [hv] at e
  simp only [Value.slice.injEq,Option.some.injEq,Addr.mk.injEq,and_true,true_and] at e
  obtain ⟨rfl,rfl⟩:=e
  exact ⟨cur.toList,by simpa using hg,by simpa using hsz,by simp [iv],rfl,hs⟩
theorem splice_take {α:Type} (cur cs:List α) (m:Nat) (h:m+cs.length≤cur.length):(splice cur m cs).take (m+cs.length)=cur.take m++cs:=by
 unfold splice
 rw [← List.append_assoc,List.take_left' (by simp;omega)]
theorem Joins.next {g N m:Nat} {xs zs:List Int} {cur:List Value} {w w' : World} (h1:cur.length=N) (h2:cur.take m=iv xs) (h3:xs.length=m) (hm:m+zs.length≤N)
  (hg:w'.heap[g]? = some (.cells (splice cur m (iv zs)).toArray 3 (0,0))) (hb:Below w.heap.size w w'):Joins g N (m+zs.length) (xs++zs) w w' := by
 refine ⟨_,hg,?_,?_,by simp;omega,Same0.of hb⟩
 ·rw [length_splice _ _ _ (by rw [iv_length];omega)];exact h1
 ·have:=splice_take cur (iv zs) m (by rw [iv_length];omega)
  rw [iv_length] at this
  rw [this,h2,iv_append]
theorem Joins.row {g N:Nat} {xs:List Int} {w wr:World} (h:Joins g N N xs w wr) (hg:w.heap.size≤g) (hN:N≤maxLen):Row w.heap.size wr (.slice (some ⟨g,0,none⟩) N N) xs:=by
 obtain ⟨cur,h1,h2,h3,h4,_⟩:=h
 subst h4
 exact ⟨by simp [iv],.inr ⟨g,xs.length,cur.toArray,rfl,hg,h1,Nat.le_refl _,hN,by simpa using h2,by simpa using h3⟩⟩
theorem iv_oneCell (xs:List Int):∀ v∈iv xs,v.oneCell' = true:=by
 intro v hv
 simp only [iv,List.mem_map] at hv
 obtain ⟨x,_,rfl⟩:=hv
 rfl
theorem IntsAt.src {w:World} {ao:Option Addr} {xs:List Int} (h:IntsAt w ao xs) (hn:0<(iv xs).length):∃ ad,ao=some ad∧∀ j v,(iv xs)[j]? = some v→w.cell? (ad.add j)=some v:=by
 rcases h with rfl | ⟨b,off,rfl,_,hc⟩
 ·simp [iv] at hn
 ·refine ⟨_,rfl,fun j v hj=>?_⟩
  have hlt:j<xs.length:=by
   have:=(List.getElem?_eq_some_iff.1 hj).1
   rwa [iv_length] at this
  rw [iv_get hlt] at hj
  cases hj
  have:=hc j hlt
  unfold Addr.add
  split
  ·rename_i h0;subst h0;first | (simp;done) | (simpa using this)
  ·exact this
theorem IntsAt.nil (w:World) (ao:Option Addr):IntsAt w ao []:=.inl rfl
def sameB (xs ys:List Int):Bool:=decide (xs=ys)
theorem same_len {xs ys:List Int} (h:xs.length≠ys.length):sameB xs ys=false:=by
 simp [sameB];intro e;exact h (by rw [e])
theorem take_eq_succ {xs ys:List Int} {k:Nat} (h:xs.take k=ys.take k) (hx:k<xs.length) (hy:k<ys.length) (he:xs[k]=ys[k]):xs.take (k+1)=ys.take (k+1):=by
 rw [List.take_add_one,List.take_add_one,h,List.getElem?_eq_getElem hx,List.getElem?_eq_getElem hy,he]
set_option maxHeartbeats 2000000 in
theorem same_any {w:World} {ao bo:Option Addr} {acap bcap:Nat} {xs ys:List Int} (hx:IntsAt w ao xs) (hy:IntsAt w bo ys) (hm:xs.length≤maxLen) :
  Calls Tryz.prog 43 #[.slice ao xs.length acap,.slice bo ys.length bcap] w fun e w' => e=.returned (.bool (sameB xs ys))∧Same0 w w' := by
 unfold maxLen at hm
 by_cases hl:xs.length=ys.length
 ·have hl' : (xs.length:Int)=(ys.length:Int):=by omega
  go_enter Tryz.func43,Tryz.ntmps43
  go_wp2
  go_loopw [5] (fun i wr=>∃ k:Nat,k≤xs.length∧i=.int .i64 (k:Int)∧Hid (xs.take k=ys.take k)∧Same0 w wr) (fun i _=>xs.length-(intOf i).toNat)
  case atStart=>exact ⟨0,Nat.zero_le _,rfl,by simp [Hid],Kept.refl _ _⟩
  case round=>
   obtain ⟨k,hk,rfl,ht,hs⟩:=hrel
   by_cases hlt:k<xs.length
   ·have hlt' : k<ys.length:=by omega
    obtain ⟨ab,ao', rfl,hab,hac⟩:=(hx.same hs).get hlt
    obtain ⟨bb,bo', rfl,hbb,hbc⟩:=(hy.same hs).get hlt'
    have i1:(0:Int)≤(k:Int):=by omega
    have i2:(k:Int)<(xs.length:Int):=by omega
    have i3:(k:Int)<(ys.length:Int):=by omega
    have d1:wr.drew.cell? ⟨ab,ao' + k,none⟩=some (.int .i64 xs[k]):=hac
    have d2:wr.drew.cell? ⟨bb,bo' + k,none⟩=some (.int .i64 ys[k]):=hbc
    by_cases he:xs[k]=ys[k]
    ·have hn:Hid (xs.take (k+1)=ys.take (k+1)):=take_eq_succ ht.out hlt hlt' he
     have he' : (xs[k] == ys[k])=true:=by simpa using he
     go_wp2
     go_quiet (fail)
     go_wp2
     refine ⟨⟨k+1,by omega,by go_num,hn,hs.drewN _⟩,by simp [intOf];omega⟩
    ·have H:Hid (sameB xs ys=false):=by
      show _=_
      simp only [sameB,decide_eq_false_iff_not]
      intro e;subst e;exact he rfl
     have he' : (xs[k] == ys[k])=false:=by simpa using he
     go_wp2
     go_quiet (fail)
     go_wp2
     go_ret
     exact ⟨by rw [H.out];rfl,hs.drewN _⟩
   ·have H:Hid (sameB xs ys=true):=by
     have:=ht.out
     rw [List.take_of_length_le (by omega),List.take_of_length_le (by omega)] at this
     show _=_
     simpa [sameB] using this
    go_wp2
    go_ret
    exact ⟨by rw [H.out];rfl,hs⟩
 ·have hl' : ¬ (xs.length:Int)=(ys.length:Int):=by omega
  have H:Hid (sameB xs ys=false):=same_len hl
  go_enter Tryz.func43,Tryz.ntmps43
  go_wp2
  go_ret
  exact ⟨by rw [H.out];rfl,Kept.refl _ _⟩
structure Both (n0:Nat) (w0 w:World) (b rb:Nat) (L:List Sym) (sv:Value) (mr:Option Nat) (rv:Value):Prop where
 sg:SigAt w b L sv mr
 rf:RefAt w rb L rv
 f:∀ k,Foot b sv mr k→n0≤k
 g:∀ k,RFoot rb rv k→n0≤k
 d:∀ k,Foot b sv mr k→¬ RFoot rb rv k
 k:Kept (From n0) w0 w
 a:Ars L
theorem Both.start (w:World):Both w.heap.size w ((w.alloc (.cells #[.slice none 0 0,.map none] 156)).alloc (.cells #[.slice none 0 0] 140)) w.heap.size (w.heap.size+1) [] (.slice none 0 0) none (.slice none 0 0):=by
 have k1:Kept (fun _=>False) (w.alloc (.cells #[.slice none 0 0,.map none] 156)) ((w.alloc (.cells #[.slice none 0 0,.map none] 156)).alloc (.cells #[.slice none 0 0] 140)):=(Kept.refl _ _).alloc _
 have e1:(w.alloc (.cells #[.slice none 0 0,.map none] 156)).heap.size=w.heap.size+1:=by simp
 refine ⟨(sig_new w).kept k1 (fun _ _ f=>f),⟨?_,World.ownsRow_nil _ _ _ _,by simp [Value.ownBlock]⟩,?_,?_,?_,((Kept.refl _ w).alloc _).alloc _,fun x hx=>by simp at hx⟩
 ·rw [← e1];exact heap_alloc_new _ _
 ·rintro k (e | e | e)
  ·omega
  ·simp [Value.ownBlock] at e
  ·simp at e
 ·rintro k (e | e)
  ·omega
  ·simp [Value.ownBlock] at e
 ·rintro k (e | e | e) (e' | e')
  ·omega
  ·simp [Value.ownBlock] at e'
  ·simp [Value.ownBlock] at e
  ·simp [Value.ownBlock] at e
  ·simp at e
  ·simp at e
theorem addL_ars {L:List Sym} (h:Ars L) (x:Sym):Ars (addL L x):=by
 unfold addL
 split
 ·rename_i hz
  intro y hy
  rcases List.mem_append.1 hy with hy | hy
  ·exact h y hy
  ·simp at hy;subst hy;exact add_ar hz
 ·exact h
theorem Both.next {n0:Nat} {w0 w w1 w2:World} {b rb:Nat} {L:List Sym} {sv:Value} {mr:Option Nat} {rv:Value} (h:Both n0 w0 w b rb L sv mr rv) (x:Sym) (hn:n0≤w.heap.size) {sv1:Value} {mr1:Option Nat}
  (h1:SigAt w1 b (addL L x) sv1 mr1) (h2:Kept (Foot b sv mr) w w1) (h3:∀ k,Foot b sv1 mr1 k→Foot b sv mr k∨w.heap.size≤k) (hr:RMoved w1 rb rv (addL L x) w2):∃ rv2,Both n0 w0 w2 b rb (addL L x) sv1 mr1 rv2:=by
 obtain ⟨rv2,r1,r2,r3⟩:=hr
 have hrl:=h.rf.lt
 have dd:∀ k,Foot b sv1 mr1 k→¬ RFoot rb rv k:=fun k hk hk' => by
  rcases h3 k hk with e | e
  ·exact h.d k e hk'
  ·have:=hrl k hk'; omega
 have z1:=h2.size
 refine ⟨rv2,h1.kept r2 (fun k e=>dd k e),r1,?_,?_,?_,?_,addL_ars h.a x⟩
 ·intro k hk
  rcases h3 k hk with e | e
  ·exact h.f k e
  ·omega
 ·intro k hk
  rcases r3 k hk with e | e
  ·exact h.g k e
  ·omega
 ·intro k hk hk'
  rcases r3 k hk' with e | e
  ·exact dd k hk e
  ·have:=sig_foot_lt h1 k hk;omega
 ·exact (h.k.trans h2 (fun i _ e=>h.f i e)).trans r2 (fun i _ e=>h.g i e)
def madeL (xs:List Sym):List Sym:=xs.foldl addL []
theorem madeL_snoc {xs:List Sym} {k:Nat} (h:k<xs.length):madeL (xs.take (k+1))=addL (madeL (xs.take k)) xs[k]:=by
 rw [List.take_add_one,List.getElem?_eq_getElem h]
 unfold madeL
 rw [List.foldl_append]
 rfl
theorem from_below {w w' : World} (h:Kept (From w.heap.size) w w'):Same0 w w' := ⟨h.os,h.tape,h.output,h.size,fun k hk _=>h.block k hk (fun e=>by omega)⟩
set_option maxHeartbeats 2000000 in
theorem made_any (ao:Option Addr) (len cap:Nat) (xs:List Sym) (w:World) (hx:SymsAt w ao len xs) (hm:len≤maxLen) :
  Calls Tryz.prog 23 #[.slice ao len cap] w fun e w' => ∃ b rv,e=.returned (.tuple #[.pointer (some ⟨b,0,none⟩),rv])∧Sg w'.heap.size w' b (madeL xs)∧Rl w'.heap.size w' rv (madeL xs)∧Same0 w w' := by
 unfold maxLen at hm
 go_enter Tryz.func23,Tryz.ntmps23
 go_wp2_with (first | (go_at_call 57;refine (new_any _).mono ?_;rintro e w' ⟨rfl,rfl⟩))
 go_loopw [6] (fun i wr=>∃ (k:Nat) (sv:Value) (mr:Option Nat) (rv:Value),k≤len∧i=.int .i64 (k:Int)∧Both w.heap.size w wr w.heap.size (w.heap.size+1) (madeL (xs.take k)) sv mr rv) (fun i _=>len-(intOf i).toNat)
 case atStart=>exact ⟨0,_,_,_,Nat.zero_le _,rfl,Both.start w⟩
 case round=>
  obtain ⟨k,sv,mr,rv,hk,rfl,hb⟩:=hrel
  have hlen:=hb.sg.len
  by_cases hlt:k<len
  ·obtain ⟨xl,xc,xw⟩:=hx.kept (from_below hb.k).below
   obtain ⟨xb,off,rfl,hxb,hxc⟩:=xc.resolve_left (by omega)
   have hkx:k<xs.length:=by omega
   obtain ⟨x0,x1,x2⟩:=hxc k hkx
   have xsz:=(xw xs[k] (List.getElem_mem hkx)).1
   have i1:(0:Int)≤(k:Int):=by omega
   have i2:(k:Int)<(len:Int):=by omega
   have E1:Hid (madeL (xs.take (k+1))=addL (madeL (xs.take k)) xs[k]):=madeL_snoc hkx
   have hn0:=hb.k.size
   have hxs:=hx
   clear hxc xw xc xl
   generalize madeL (xs.take k)=L at *
   go_wp2_with fail
   refine (add_any hb.sg xs[k] xsz).mono ?_
   rintro e w1 ⟨rfl,sv1,mr1,h1,h2,h3⟩
   have hr1:RefAt w1 (w.heap.size+1) L rv:=hb.rf.kept h2 (fun k hk' e=>hb.d k e hk')
   have k1:Kept (From w.heap.size) w w1:=hb.k.trans h2 (fun i _ e=>hb.f i e)
   obtain ⟨y0,y1,y2⟩:w1.cell? ⟨xb,off+k * 3,none⟩=some (.string xs[k].name)∧w1.cell? ⟨xb,off+k * 3+1,none⟩=some (.int .i64 xs[k].ar)∧w1.cell? ⟨xb,off+k * 3+2,none⟩=some (.bool xs[k].df):=by
    obtain ⟨_,yc,_⟩:=hxs.kept (from_below k1).below
    obtain ⟨_,_,e,_,hyc⟩:=yc.resolve_left (by omega)
    simp only [Option.some.injEq,Addr.mk.injEq,and_true] at e
    rw [e.1,e.2]
    exact hyc k hkx
   clear x0 x1 x2
   go_wp2_with fail
   refine (radd_any hr1 hlen xs[k] xsz).mono ?_
   rintro e w2 ⟨rfl,hr⟩
   obtain ⟨rv2,hb2⟩:=hb.next xs[k] hn0 h1 h2 h3 hr
   go_wp2
   refine ⟨⟨k+1,sv1,mr1,rv2,by omega,by go_num,?_⟩,by simp [intOf];omega⟩
   rw [E1.out];exact hb2
  ·have hxl:=hx.1
   have E1:xs.take k=xs:=List.take_of_length_le (by omega)
   rw [E1] at hb hlen
   have r0:=hb.rf.c0
   clear E1
   go_wp2
   go_quiet (fail)
   go_wp2
   go_ret2
   have kd:Same0 wr (wr.drewN nq):=(Kept.refl _ _).drewN nq
   have fin:Sg wr.heap.size wr w.heap.size (madeL xs)∧Rl wr.heap.size wr rv (madeL xs)∧Same0 w wr:=⟨⟨⟨sv,mr,hb.sg,sig_foot_lt hb.sg⟩,hb.a⟩,⟨hb.rf.row,fun k e=>hb.rf.lt k (.inr e),hb.a,hlen⟩,from_below hb.k⟩
   exact ⟨w.heap.size,rv,rfl,fin.1.same kd,fin.2.1.same kd,fin.2.2.trans' kd⟩
theorem ints_new (w:World) (xs:List Int) (T:TypeId) {o:Obj} (ho:o=.cells (iv xs).toArray T (0,0)):IntsAt (w.alloc o) (some ⟨w.heap.size,0,none⟩) xs:=by
 subst ho
 refine .inr ⟨_,_,rfl,by simp,fun i hi=>?_⟩
 rw [Nat.zero_add,cellAt (heap_alloc_new w _)]
 simpa using iv_get hi
theorem Row.ints {base:Nat} {w:World} {v:Value} {xs:List Int} (h:Row base w v xs):∃ ao cap,v=.slice ao xs.length cap∧IntsAt w ao xs∧xs.length≤cap∧(∀ a,ao=some a→base≤a.block∧a.block<w.heap.size):=by
 rcases h.2 with ⟨rfl,h0⟩ | ⟨g,cap,cur,rfl,hb,hg,h1,h2,h3,h4⟩
 ·have:xs=[]:=List.eq_nil_of_length_eq_zero h0
  subst this
  exact ⟨none,0,rfl,.inl rfl,Nat.le_refl _,fun a e=>by cases e⟩
 ·refine ⟨_,cap,rfl,.inr ⟨g,0,rfl,lt_of_at hg,fun i hi=>?_⟩,h1,fun a e=>by cases e;exact ⟨hb,lt_of_at hg⟩⟩
  rw [Nat.zero_add,h.cellAt i (by omega)]
  exact iv_get hi
abbrev zS:Sym:=⟨⟨#[122]⟩,0,false⟩
abbrev L3:List Sym:=[zS,aS,aAdd]
set_option maxHeartbeats 1000000 in
theorem rArity_any {n:Nat} {w:World} {rv:Value} {L:List Sym} (h:Rl n w rv L) (x:Int):Calls Tryz.prog 135 #[rv,.int .i64 x] w fun e w' => e=.returned (.int .i64 (if x<0∨(L.length:Int)≤x then -1 else (arN L x:Int)))∧w' = w:=by
 obtain ⟨hr,_,ha,hlen⟩:=h
 obtain ⟨ao,cap,rfl⟩:=row_shape hr
 by_cases h0:x<0
 ·go_enter Tryz.func135,Tryz.ntmps135
  go_wp2
  go_ret
  exact ⟨rfl,rfl⟩
 ·by_cases h1:(L.length:Int)≤x
  ·go_enter Tryz.func135,Tryz.ntmps135
   go_wp2
   go_ret
   exact ⟨rfl,rfl⟩
  ·obtain ⟨i,rfl⟩:∃ i:Nat,x=(i:Int):=⟨x.toNat,by omega⟩
   have hi:i<L.length:=by omega
   have H:Hid (((arN L (i:Int):Nat):Int)=L[i].ar):=ar_of ha hi
   obtain ⟨g,rfl,hg,x0,x1,x2⟩:=row_sym hr hi
   have i1:(0:Int)≤(i:Int):=by omega
   have i2:(i:Int)<(L.length:Int):=by omega
   go_enter Tryz.func135,Tryz.ntmps135
   go_wp2
   go_ret
   exact ⟨by rw [H.out];rfl,rfl⟩
set_option maxHeartbeats 1000000 in
theorem rarity_any {n:Nat} {w:World} {rv:Value} {L:List Sym} (h:Rl n w rv L) (x:Int):Calls Tryz.prog 110 #[rv,.int .i64 x] w fun e w' => e=.returned (.int .i64 (arN L x:Int))∧w' = w:=by
 have c:=rArity_any h x
 by_cases hx:x<0∨(L.length:Int)≤x
 ·rw [if_pos hx] at c
  have H:Hid (arN L x=0):=ar_no hx
  go_enter Tryz.func110,Tryz.ntmps110
  go_wp2_with (first | (go_at_call 135;refine c.mono ?_;rintro e w' ⟨rfl,rfl⟩))
  go_ret
  exact ⟨by rw [H.out];rfl,rfl⟩
 ·rw [if_neg hx] at c
  go_enter Tryz.func110,Tryz.ntmps110
  go_wp2_with (first | (go_at_call 135;refine c.mono ?_;rintro e w' ⟨rfl,rfl⟩))
  go_ret
  exact ⟨rfl,rfl⟩
set_option maxHeartbeats 2000000 in
theorem rend_any {n:Nat} {w:World} {rv:Value} {L:List Sym} (h:Rl n w rv L) {ao:Option Addr} {cap:Nat} {t:List Int} (ht:IntsAt w ao t) (hm:t.length≤2000) (p0:Nat) (hp0:p0≤t.length) :
  Calls Tryz.prog 85 #[rv,.slice ao t.length cap,.int .i64 (p0:Int)] w fun e w' => e=.returned (.int .i64 (endN L t p0))∧w' = w:=by
 have ha:=h.2.2.1
 go_enter Tryz.func85,Tryz.ntmps85
 go_wp2
 go_loop [7,8] (fun la at' => ∃ p k:Nat,p0≤p∧p≤t.length∧at' = .int .i64 (p:Int)∧la=.int .i64 (k:Int)∧k≤1+6 * (p-p0)∧Hid (endO L t p0=(scan L k (t.drop p)).map (p + ·))) (fun _ at' => t.length-(intOf at').toNat)
 case atStart=>exact ⟨p0,1,Nat.le_refl _,hp0,rfl,rfl,by omega,rfl⟩
 case round=>
  obtain ⟨p,k,h1,h2,rfl,rfl,h3,h4⟩:=hrel
  by_cases hlt:p<t.length
  ·cases k with
   | zero=>
    have H6:Hid (endN L t p0=p):=by
     have:=h4.out
     simp [scan_zero] at this
     show _=_
     simp [endN,this]
    go_wp2
    go_ret
    exact ⟨by rw [H6.out];rfl,rfl⟩
   | succ k=>
    obtain ⟨tb,off,rfl,htb,hc⟩:=ht.get hlt
    have c:=rarity_any h t[p]
    have hle:=arN_le ha t[p]
    have H5:Hid (endO L t p0=(scan L (k+arN L t[p]) (t.drop (p+1))).map (p+1 + ·)):=endO_round h4.out hlt
    have i1:(0:Int)≤(p:Int):=by omega
    have i2:(p:Int)<(t.length:Int):=by omega
    clear h4
    generalize arN L t[p]=a at *
    go_wp2_with (first | (go_at_call 110;refine c.mono ?_;rintro e w' ⟨rfl,rfl⟩))
    refine ⟨⟨p+1,k+a,by omega,by omega,by go_num,by first | (congr 1;omega) | congr 1,by omega,H5⟩,by simp [intOf];omega⟩
  ·have H6:Hid (endN L t p0=p):=by
    have h4:=h4.out
    rw [List.drop_eq_nil_of_le (by omega)] at h4
    show _=_
    cases k with
    | zero=>simp [scan] at h4;simp [endN,h4]
    | succ k=>simp [scan] at h4;simp [endN,h4];omega
   go_wp2
   go_ret
   exact ⟨by rw [H6.out];rfl,rfl⟩
theorem need_take {L:List Sym} {t:List Int} {p k:Nat} (h:need L 1 (t.take p)=some k) (hp:p<t.length):(k=0→¬ need L 1 t=some 0)∧(∀ j,k=j+1→need L 1 (t.take (p+1))=some (j+arN L t[p])):=by
 have e:t=t.take p++(t[p] :: t.drop (p+1)):=by rw [← List.drop_eq_getElem_cons hp,List.take_append_drop]
 constructor
 ·rintro rfl hn
  rw [e,need_append,h,Option.bind_some,need] at hn
  cases hn
 ·rintro j rfl
  rw [List.take_add_one,need_append,h,List.getElem?_eq_getElem hp]
  simp [need]
theorem checkE_shape {L:List Sym} {t:List Int} (h:¬ 2000<t.length) (hb:badE L t=0):checkE L t=if need L 1 t=some 0 then 0 else 23:=by
 simp [checkE,h,hb]
set_option maxHeartbeats 4000000 in
theorem rcheck_any {n:Nat} {w:World} {rv:Value} {L:List Sym} (h:Rl n w rv L) {ao:Option Addr} {cap:Nat} {t:List Int} (ht:IntsAt w ao t) (hm:t.length≤maxLen) :
  Calls Tryz.prog 68 #[rv,.slice ao t.length cap] w fun e w' => e=.returned (.int .i64 (checkE L t))∧w' = w:=by
 unfold maxLen at hm
 have ha:=h.2.2.1
 have hL64:=h.2.2.2
 obtain ⟨ro,rcap,rfl⟩:=row_shape h.1
 by_cases hl:2000<t.length
 ·have H:Hid (checkE L t=20):=checkE_long hl
  go_enter Tryz.func68,Tryz.ntmps68
  go_wp2
  go_ret
  exact ⟨ret_int H.out.symm,rfl⟩
 ·have hl' : t.length≤2000:=by omega
  go_enter Tryz.func68,Tryz.ntmps68
  go_wp2
  go_loop [5] (fun i=>∃ p:Nat,p≤t.length∧i=.int .i64 (p:Int)∧Hid (badE L (t.take p)=0)) (fun i=>t.length-(intOf i).toNat)
  case atStart=>exact ⟨0,Nat.zero_le _,rfl,by simp [badE,Hid]⟩
  case round=>
   obtain ⟨p,h1,rfl,h2⟩:=hrel
   by_cases hlt:p<t.length
   ·obtain ⟨tb,off,rfl,htb,hc⟩:=ht.get hlt
    have i1:(0:Int)≤(p:Int):=by omega
    have i2:(p:Int)<(t.length:Int):=by omega
    obtain ⟨s1,s2⟩:=badE_step hlt h2.out
    by_cases q1:(L.length:Int)≤t[p]
    ·have e0:numE L t[p]=21:=by simp [numE,q1]
     have H:Hid (checkE L t=21):=by
      show _=_
      have:=s1 (by omega)
      rw [checkE_bad hl (by omega)];omega
     clear s1 s2 h2 e0
     go_wp2
     go_ret
     exact ⟨ret_int H.out.symm,rfl⟩
    ·by_cases q2:t[p] < -99
     ·have e0:numE L t[p]=22:=by simp [numE,q1,q2]
      have H:Hid (checkE L t=22):=by
       show _=_
       have:=s1 (by omega)
       rw [checkE_bad hl (by omega)];omega
      clear s1 s2 h2 e0
      go_wp2
      go_ret
      exact ⟨ret_int H.out.symm,rfl⟩
     ·have e0:numE L t[p]=0:=by simp [numE,q1,q2]
      have S2:Hid (badE L (t.take (p+1))=0):=s2 e0
      clear s1 s2 h2 e0
      go_wp2
      exact ⟨⟨p+1,by omega,by go_num,S2⟩,by simp [intOf];omega⟩
   ·obtain rfl:p=t.length:=by omega
    have hb:=h2.out
    rw [List.take_length] at hb
    have HC:Hid (checkE L t=if need L 1 t=some 0 then 0 else 23):=checkE_shape hl hb
    clear h2 hb
    go_wp2
    go_loop [6,7] (fun la i=>∃ p k:Nat,p≤t.length∧i=.int .i64 (p:Int)∧la=.int .i64 (k:Int)∧k≤1+6 * p∧Hid (need L 1 (t.take p)=some k)) (fun _ i=>t.length-(intOf i).toNat)
    case atStart=>exact ⟨0,1,Nat.zero_le _,rfl,rfl,by omega,by simp [need,Hid]⟩
    case round=>
     obtain ⟨p,k,g1,rfl,rfl,g2,g3⟩:=hrel
     by_cases hlt2:p<t.length
     ·obtain ⟨tb,off,rfl,htb,hc⟩:=ht.get hlt2
      have i1:(0:Int)≤(p:Int):=by omega
      have i2:(p:Int)<(t.length:Int):=by omega
      obtain ⟨s1,s2⟩:=need_take g3.out hlt2
      cases k with
      | zero=>
       have H:Hid (checkE L t=23):=by show _=_;rw [HC.out,if_neg (s1 rfl)]
       clear s1 s2 g3 HC
       go_wp2
       go_ret
       exact ⟨ret_int H.out.symm,rfl⟩
      | succ k=>
       have S2:Hid (need L 1 (t.take (p+1))=some (k+arN L t[p])):=s2 k rfl
       have c:=rarity_any h t[p]
       have hle:=arN_le ha t[p]
       clear s1 s2 g3 HC
       generalize arN L t[p]=a at *
       go_wp2_with (first | (go_at_call 110;refine c.mono ?_;rintro e w' ⟨rfl,rfl⟩))
       refine ⟨⟨p+1,k+a,by omega,by go_num,by first | (congr 1;omega) | congr 1,by omega,S2⟩,by simp [intOf];omega⟩
     ·obtain rfl:p=t.length:=by omega
      have g4:=g3.out
      rw [List.take_length] at g4
      by_cases hk0:k=0
      ·subst hk0
       have H:Hid (checkE L t=0):=by show _=_;rw [HC.out,if_pos g4]
       clear g3 g4 HC
       go_wp2
       go_ret
       exact ⟨ret_int H.out.symm,rfl⟩
      ·have H:Hid (checkE L t=23):=by show _=_;rw [HC.out,if_neg (by rw [g4];simp;exact hk0)]
       clear g3 g4 HC
       go_wp2
       go_ret
       exact ⟨ret_int H.out.symm,rfl⟩
theorem wpList_push {w0:World} {ops:Array Oper} {rest:List Oper} {o:Oper} {a:Act} {Q:Exit→Act→World→Prop} (hgd:o.guard=none) (s x:Operand) (t:TypeId)
  (ho:o.op=.call { callee:=.builtin .append,args:=#[s,x],argTypes:=#[t,t] }) (ht:Tryz.prog.underlying t=some (.slice 3))
  (base:Nat) (xs:List Int) (v:Value) (hs:a.eval s=v) (hr:Row base w0 v xs) (y:Int) (hx:a.eval x=.slice (some ⟨w0.heap.size,0,none⟩) 1 1) (hb:base≤w0.heap.size) (hsz:(xs.length+1) * 8≤140737488355328)
  (h:∀ g cap w', Row base w' (.slice (some ⟨g,0,none⟩) (xs.length+1) cap) (xs ++ [y])→Kept (fun k=>v.ownBlock=some k) w0 w' → (v.ownBlock=some g∨w0.heap.size≤g)→wpList Tryz.prog ops Q rest (a.put o.dst (.slice (some ⟨g,0,none⟩) (xs.length+1) cap)) w') :
  wpList Tryz.prog ops Q (o :: rest) a (w0.alloc (.cells #[.int .i64 y] 3)):=by
 obtain ⟨i,hi,hz0,hz1,hz2⟩:=info_parts info_intT
 refine wpList_append_lies _ hgd s x t ho base 3 i (.int .i64 0) 1 8 ht hi hz0 hz1 hz2 rfl (by decide) v xs.length (iv xs) hs (hr.alloc _) ⟨w0.heap.size,0,none⟩ 1 1 [.int .i64 y] hx rfl (cell_one_new _ _ _) (by simp [Value.oneCell']) (by omega) (by unfold maxLen;omega) hsz (by simp;omega) (w0.heap.size+1) (by simp) ?_
 intro g cap w' hown hgrow hat hlt
 refine h g cap w' ?_ ?_ (hat.imp id (fun e=>by omega))
 ·unfold Row;rw [iv_append,List.length_append];exact hown
 ·exact Kept.grown (Kept.alloc (Kept.refl _ w0) _) hgrow (fun _ e _=>e)
theorem Same0.onto {w w0 w' : World} {v:Value} {xs:List Int} (h:Same0 w w0) (hr:Row w.heap.size w0 v xs) (hk:Kept (fun k=>v.ownBlock=some k) w0 w'):Same0 w w' :=
 h.trans hk (fun i hi e=>by have:=(hr.lt i e).1;omega)
set_option maxHeartbeats 4000000 in
theorem rargs_any {n:Nat} {w:World} {rv:Value} {L:List Sym} (h:Rl n w rv L) {ao:Option Addr} {cap:Nat} {t:List Int} (ht:IntsAt w ao t) (hm:t.length≤2000) (hT:IsT L t) (p:Nat) (hp:p<t.length) :
  Calls Tryz.prog 67 #[rv,.slice ao t.length cap,.int .i64 (p:Int)] w fun e w' => ∃ v,e=.returned v∧Row w.heap.size w' v (ofN (argsN L t p))∧Same0 w w' := by
 have H:Hid (argsN L t p=starts L t (arN L t[p]) (p+1)):=argsN_eq hp
 have hf:=(Forest.one hT hp).kids.2
 have har:=arN_le h.2.2.1 t[p]
 have c1:∀ w1,Same0 w w1→Calls Tryz.prog 110 #[rv,.int .i64 t[p]] w1 fun e w' => e=.returned (.int .i64 (arN L t[p]:Int))∧w' = w1:=fun w1 hk=>rarity_any (h.same hk) t[p]
 have c2:∀ w1 q,Same0 w w1→q<t.length→Calls Tryz.prog 85 #[rv,.slice ao t.length cap,.int .i64 (q:Int)] w1 fun e w' => e=.returned (.int .i64 (endN L t q:Int))∧w' = w1:=fun w1 q hk hq=>rend_any (cap:=cap) (h.same hk) (ht.same hk) hm q (by omega)
 have i1:(0:Int)≤(p:Int):=by omega
 have i2:(p:Int)<(t.length:Int):=by omega
 have i0:¬ (p:Int)<0:=by omega
 have i0' : decide ((p:Int)<0)=false:=by simp
 obtain ⟨ro,rcap,rfl⟩:=row_shape h.1
 obtain ⟨tb,off,rfl,htb,hc⟩:=ht.get hp
 have hc' : ∀ w1,Same0 w w1→w1.cell? ⟨tb,off+p,none⟩=some (.int .i64 t[p]):=fun w1 hk=>(hk.cell (p:=⟨tb,off+p,none⟩) htb (fun f=>f)).trans hc
 generalize hA:arN L t[p]=A at *
 have hA:Hid (arN L t[p]=A):=hA
 go_enter Tryz.func67,Tryz.ntmps67
 go_wp2
 go_loopw [7,8,9] (fun out nx i wr=>∃ k:Nat,k≤A∧i=.int .i64 (k:Int)∧nx=.int .i64 (past L t k (p+1):Int)∧Row w.heap.size wr out (ofN (starts L t k (p+1)))∧Same0 w wr) (fun _ _ i _=>A-(intOf i).toNat)
 case atStart=>exact ⟨0,Nat.zero_le _,rfl,rfl,World.ownsRow_nil _ _ _ _,Kept.refl _ _⟩
 case round=>
  obtain ⟨k,hkA,rfl,rfl,hr,hs⟩:=hrel
  have d0:=hc' _ hs
  have cA:=c1 _ hs
  by_cases hlt:k<A
  ·have hfk:=hf.drop (i:=k) (by omega)
   rw [show A-k=(A-k-1)+1 by omega] at hfk
   have hq:past L t k (p+1)<t.length:=by have:=hfk.pos;have:=hfk.le;omega
   have e1:Hid (past L t (k+1) (p+1)=endN L t (past L t k (p+1))):=past_succ L t k (p+1)
   have e2:Hid (ofN (starts L t (k+1) (p+1))=ofN (starts L t k (p+1)) ++ [((past L t k (p+1):Nat):Int)]):=by show _=_;rw [starts_snoc];simp [ofN]
   have hlen:(ofN (starts L t k (p+1))).length=k:=by simp [ofN,starts_length]
   have hlt' : ¬ A≤k:=by omega
   clear hfk c1 hc'
   generalize past L t k (p+1)=P at *
   generalize ofN (starts L t k (p+1))=out at *
   subst hlen
   obtain ⟨oo,ocap,rfl⟩:=row_shape hr
   go_wp2_with (first | (go_at_call 110;refine cA.mono ?_;rintro e w' ⟨rfl,rfl⟩) | (at_builtin;refine wpList_push rfl _ _ 22 rfl Tryz.underlying22 w.heap.size out _ rfl hr (P:Int) rfl hs.size (by omega) ?_;intro g gcap w4 hr4 hk4 _;have hs4:=hs.onto hr hk4) | (go_at_call 85;refine (c2 _ _ hs4 hq).mono ?_;rintro e w' ⟨rfl,rfl⟩))
   rw [← e2.out] at hr4
   go_roundw
   case rel=>first | exact ⟨out.length+1,by omega,by go_num,by rw [e1.out],hr4,hs4⟩ | ((repeat apply Exists.intro);exact ⟨⟨out.length+1,by omega,by go_num,by rw [e1.out],hr4,hs4⟩,rfl⟩)
   case measure=>simp [intOf];omega
  ·obtain rfl:k=A:=by omega
   obtain ⟨oo,ocap,rfl⟩:=row_shape hr
   clear c1 c2 hc'
   go_wp2_with (first | (go_at_call 110;refine cA.mono ?_;rintro e w' ⟨rfl,rfl⟩))
   go_ret
   refine ⟨_,rfl,?_,hs⟩
   rw [H.out];exact hr
end Go.Proofs.YtdhiiicppcgkbaaGreat
namespace Go.Proofs.YtdhiiicppcgkbaaGreat
set_option linter.unusedVariables false
open Go.RowKit
attribute [local go_sem ↓] Go.wp_at_zero Go.wp_at_succ
set_option maxHeartbeats 1000000 in
theorem rIsV_any (x:Int) (w:World):Calls Tryz.prog 190 #[.int .i64 x] w fun e w' => e=.returned (.bool (isV x))∧w' = w:=by
 by_cases h1:x<0
 ·by_cases h2 : -99≤x
  ·have H:Hid (isV x=true):=by show _=_;simp [isV];omega
   go_enter Tryz.func190,Tryz.ntmps190
   go_wp2
   go_ret
   exact ⟨by rw [H.out];rfl,rfl⟩
  ·have H:Hid (isV x=false):=by show _=_;simp [isV];omega
   go_enter Tryz.func190,Tryz.ntmps190
   go_wp2
   go_ret
   exact ⟨by rw [H.out];rfl,rfl⟩
 ·have H:Hid (isV x=false):=by show _=_;simp [isV];omega
  go_enter Tryz.func190,Tryz.ntmps190
  go_wp2
  go_ret
  exact ⟨by rw [H.out];rfl,rfl⟩
def inB (l:List Int) (n:Int):Bool:=decide (n∈l)
set_option maxHeartbeats 1000000 in
theorem rIn_any {w:World} {ao:Option Addr} {cap:Nat} {l:List Int} (hl:IntsAt w ao l) (n:Int) (hm:l.length≤maxLen):Calls Tryz.prog 183 #[.slice ao l.length cap,.int .i64 n] w fun e w' => e=.returned (.bool (inB l n))∧w' = w:=by
 unfold maxLen at hm
 go_enter Tryz.func183,Tryz.ntmps183
 go_wp2
 go_loop [5] (fun i=>∃ k:Nat,k≤l.length∧i=.int .i64 (k:Int)∧Hid (¬ n∈l.take k)) (fun i=>l.length-(intOf i).toNat)
 case atStart=>exact ⟨0,Nat.zero_le _,rfl,by simp [Hid]⟩
 case round=>
  obtain ⟨k,hk,rfl,hn⟩:=hrel
  by_cases hlt:k<l.length
  ·obtain ⟨b,off,rfl,_,hc⟩:=hl.get hlt
   have i1:(0:Int)≤(k:Int):=by omega
   have i2:(k:Int)<(l.length:Int):=by omega
   by_cases he:l[k]=n
   ·have H:Hid (inB l n=true):=by show _=_;simp [inB];rw [← he];exact List.getElem_mem hlt
    have he' : (l[k] == n)=true:=by simpa using he
    go_wp2
    go_ret
    exact ⟨by rw [H.out];rfl,rfl⟩
   ·have he' : (l[k] == n)=false:=by simpa using he
    have hn' : Hid (¬ n∈l.take (k+1)):=by
     rw [List.take_add_one,List.getElem?_eq_getElem hlt]
     intro hh
     rcases List.mem_append.1 hh with hh | hh
     ·exact hn.out hh
     ·simp at hh;exact he hh.symm
    go_wp2
    exact ⟨⟨k+1,by omega,by go_num,hn'⟩,by simp [intOf];omega⟩
  ·have H:Hid (inB l n=false):=by
    have:=hn.out
    rw [List.take_of_length_le (by omega)] at this
    show _=_;simpa [inB] using this
   go_wp2
   go_ret
   exact ⟨by rw [H.out];rfl,rfl⟩
theorem vstep_yes {o:List Int} {x:Int} (h1:isV x=true) (h2:inB o (-x)=false):vstep o x=o ++ [-x]:=by
 rw [vstep,if_pos ⟨h1,by simpa [inB] using h2⟩]
theorem vstep_in {o:List Int} {x:Int} (h2:inB o (-x)=true):vstep o x=o:=by
 rw [vstep,if_neg (by simp [inB] at h2;simp [h2])]
theorem vstep_no {o:List Int} {x:Int} (h1:isV x=false):vstep o x=o:=by
 rw [vstep,if_neg (by simp [h1])]
set_option maxHeartbeats 2000000 in
theorem rvars_any {w:World} {ao:Option Addr} {cap:Nat} {t:List Int} (ht:IntsAt w ao t) (hm:t.length * 8≤140737488351232) :
  Calls Tryz.prog 182 #[.slice ao t.length cap] w fun e w' => ∃ v,e=.returned v∧Row w.heap.size w' v (varsL t)∧Same0 w w' := by
 go_enter Tryz.func182,Tryz.ntmps182
 go_wp2
 go_loopw [3,4] (fun ov i wr=>∃ k:Nat,k≤t.length∧i=.int .i64 (k:Int)∧Row w.heap.size wr ov (varsL (t.take k))∧Same0 w wr) (fun _ i _=>t.length-(intOf i).toNat)
 case atStart=>exact ⟨0,Nat.zero_le _,rfl,World.ownsRow_nil _ _ _ _,Kept.refl _ _⟩
 case round=>
  obtain ⟨k,hk,rfl,hr,hs⟩:=hrel
  obtain ⟨oo,ocap,rfl⟩:=row_shape hr
  by_cases hlt:k<t.length
  ·obtain ⟨b,off,rfl,_,hc⟩:=(ht.same hs).get hlt
   have i1:(0:Int)≤(k:Int):=by omega
   have i2:(k:Int)<(t.length:Int):=by omega
   have E:Hid (varsL (t.take (k+1))=vstep (varsL (t.take k)) t[k]):=vs_take hlt
   have hl:=vs_len [] (t.take k)
   have hl2:(varsL (t.take k)).length≤t.length:=by simp at hl;unfold varsL;omega
   have cV:=fun w' => rIsV_any t[k] w'
   clear hl
   generalize hO:varsL (t.take k)=O at *
   generalize hX:t[k]=x at *
   cases hv:isV x with
   | false=>
    have E1:Hid (varsL (t.take (k+1))=O):=by rw [E.out];exact vstep_no hv
    rw [← E1.out] at hr
    simp only [hv] at cV
    have hlE:=congrArg List.length E1.out
    rw [← hlE]
    clear hlE
    go_wp2_with (first | (go_at_call 190;refine (cV _).mono ?_;rintro e wr ⟨rfl,rfl⟩))
    go_roundw
    case rel=>first | exact ⟨k+1,by omega,by go_num,hr,hs⟩ | ((repeat apply Exists.intro);exact ⟨⟨k+1,by omega,by go_num,hr,hs⟩,rfl⟩)
    case measure=>simp [intOf];omega
   | true=>
    simp only [hv] at cV
    have hx:=isV_iff.1 hv
    obtain ⟨oo', ocap', hvv,io,_,_⟩:=hr.ints
    simp only [Value.slice.injEq,true_and] at hvv
    obtain ⟨rfl,rfl⟩:=hvv
    have cI:=rIn_any (cap:=ocap) io (-x) (by unfold maxLen;omega)
    cases hin:inB O (-x) with
    | true=>
     have E1:Hid (varsL (t.take (k+1))=O):=by rw [E.out];exact vstep_in hin
     rw [hin] at cI
     go_wp2_with (first | (go_at_call 190;refine (cV _).mono ?_;rintro e wr ⟨rfl,rfl⟩) | (go_at_call 183;refine cI.mono ?_;rintro e wr ⟨rfl,rfl⟩))
     rw [← E1.out] at hr
     have hrE:Row w.heap.size wr (.slice oo O.length ocap) (varsL (t.take (k+1))):=by rw [E1.out] at hr ⊢;exact hr
     exact ⟨⟨k+1,by omega,by go_num,hrE,hs⟩,by simp [intOf];omega⟩
    | false=>
     have E1:Hid (varsL (t.take (k+1))=O ++ [-x]):=by rw [E.out];exact vstep_yes hv hin
     rw [hin] at cI
     have hb8:(O.length+1) * 8≤140737488355328:=by omega
     have hss:=hs.size
     go_wp2_with (first | (go_at_call 190;refine (cV _).mono ?_;rintro e wr ⟨rfl,rfl⟩) | (go_at_call 183;refine cI.mono ?_;rintro e wr ⟨rfl,rfl⟩) | (at_builtin;refine wpList_push rfl _ _ 22 rfl Tryz.underlying22 w.heap.size O _ rfl hr (-x) rfl hss hb8 ?_;intro g gcap w4 hr4 hk4 _;have hs4:=hs.onto hr hk4))
     rw [← E1.out] at hr4
     go_roundw
     case rel=>first | exact ⟨k+1,by omega,by go_num,hr4,hs4⟩ | ((repeat apply Exists.intro);exact ⟨⟨k+1,by omega,by go_num,hr4,hs4⟩,rfl⟩)
     case measure=>simp [intOf];omega
  ·obtain rfl:k=t.length:=by omega
   rw [List.take_length] at hr
   go_wp2
   go_ret
   refine ⟨_,rfl,?_,hs⟩
   simpa using hr
theorem zeros_bool:Tryz.zeroCells294=Array.replicate 100 (.bool false):=by kernel_rfl
def MetAt (w:World) (A:Nat) (o:List Int):Prop:=∃ cs,w.heap[A]? = some (.cells cs 294 (0,0))∧cs.size=100∧∀ v:Nat,1≤v→v≤99→cs[v]? = some (.bool (inB o (v:Int)))
theorem met_new (w:World):MetAt (w.alloc (.cells Tryz.zeroCells294 294)) w.heap.size []:=by
 refine ⟨_,heap_alloc_new w _,by rw [zeros_bool];simp,fun v h1 h2=>?_⟩
 rw [zeros_bool,Array.getElem?_replicate,if_pos (by omega)]
 simp [inB]
theorem MetAt.kept {w w' : World} {A:Nat} {o:List Int} {S:Nat→Prop} (h:MetAt w A o) (hk:Kept S w w') (hn:¬ S A):MetAt w' A o:=by
 obtain ⟨cs,h1,h2⟩:=h
 exact ⟨cs,hk.at h1 hn,h2⟩
theorem MetAt.cell {w:World} {A:Nat} {o:List Int} (h:MetAt w A o) {v:Nat} (h1:1≤v) (h2:v≤99):w.cell? ⟨A,v,none⟩=some (.bool (inB o (v:Int)))∧w.frozen? ⟨A,v,none⟩=false:=by
 obtain ⟨cs,q1,q2,q3⟩:=h
 exact ⟨(cellAt q1 v).trans (q3 v h1 h2),frozenAt q1 v⟩
theorem MetAt.set {w:World} {A:Nat} {o:List Int} (h:MetAt w A o) {v:Nat} (h1:1≤v) (h2:v≤99):MetAt (w.setCell ⟨A,v,none⟩ (.bool true)) A (o ++ [(v:Int)]):=by
 obtain ⟨cs,q1,q2,q3⟩:=h
 refine ⟨_,setAt q1 v _,by simpa using q2,fun u g1 g2=>?_⟩
 rw [Array.getElem?_setIfInBounds]
 by_cases e:v=u
 ·subst e;rw [if_pos rfl,if_pos (by omega)];simp [inB]
 ·rw [if_neg e,q3 u g1 g2]
  congr 2
  simp [inB];omega
set_option maxHeartbeats 4000000 in
theorem tvars_any {w:World} {ao:Option Addr} {cap:Nat} {t:List Int} (ht:IntsAt w ao t) (hm:t.length * 8≤140737488351232) :
  Calls Tryz.prog 177 #[.slice ao t.length cap] w fun e w' => ∃ v,e=.returned v∧Row w.heap.size w' v (varsL t)∧Same0 w w' := by
 have M0:=met_new w
 have K0:Same0 w (w.alloc (.cells Tryz.zeroCells294 294)):=(Kept.refl _ w).alloc _
 go_enter Tryz.func177,Tryz.ntmps177
 go_wp2
 go_loopw [4,9] (fun ov i wr=>∃ k:Nat,k≤t.length∧i=.int .i64 (k:Int)∧Row w.heap.size wr ov (varsL (t.take k))∧MetAt wr w.heap.size (varsL (t.take k))∧ov.ownBlock≠some w.heap.size∧Same0 w wr) (fun _ i _=>t.length-(intOf i).toNat)
 case atStart=>exact ⟨0,Nat.zero_le _,rfl,World.ownsRow_nil _ _ _ _,M0,by simp [Value.ownBlock],K0⟩
 case round=>
  clear M0 K0
  obtain ⟨k,hk,rfl,hr,hM,hne,hs⟩:=hrel
  obtain ⟨oo,ocap,rfl⟩:=row_shape hr
  by_cases hlt:k<t.length
  ·obtain ⟨b,off,rfl,_,hc⟩:=(ht.same hs).get hlt
   have i1:(0:Int)≤(k:Int):=by omega
   have i2:(k:Int)<(t.length:Int):=by omega
   have E:Hid (varsL (t.take (k+1))=vstep (varsL (t.take k)) t[k]):=vs_take hlt
   have hl:=vs_len [] (t.take k)
   have hl2:(varsL (t.take k)).length≤t.length:=by simp at hl;unfold varsL;omega
   have cV:=fun w' => isVariable_any t[k] w'
   clear hl
   generalize hO:varsL (t.take k)=O at *
   generalize hX:t[k]=x at *
   cases hv:isV x with
   | false=>
    have E1:Hid (varsL (t.take (k+1))=O):=by rw [E.out];exact vstep_no hv
    simp only [hv] at cV
    go_wp2_with (first | (go_at_call 138;refine (cV _).mono ?_;rintro e wr ⟨rfl,rfl⟩))
    have hrE:Row w.heap.size wr (.slice oo O.length ocap) (varsL (t.take (k+1))):=by rw [E1.out];exact hr
    have hME:MetAt wr w.heap.size (varsL (t.take (k+1))):=by rw [E1.out];exact hM
    exact ⟨⟨k+1,by omega,by go_num,hrE,hME,hne,hs⟩,by simp [intOf];omega⟩
   | true=>
    simp only [hv] at cV
    have hx:=isV_iff.1 hv
    obtain ⟨v,rfl⟩:∃ v:Nat,x = -(v:Int):=⟨(-x).toNat,by omega⟩
    have hv1:1≤v:=by omega
    have hv2:v≤99:=by omega
    obtain ⟨q1,q2⟩:=hM.cell hv1 hv2
    have j1:(0:Int)≤(v:Int):=by omega
    have j2:(v:Int)<100:=by omega
    cases hin:inB O (v:Int) with
    | true=>
     have E1:Hid (varsL (t.take (k+1))=O):=by rw [E.out];exact vstep_in (by simpa using hin)
     rw [hin] at q1
     go_wp2_with (first | (go_at_call 138;refine (cV _).mono ?_;rintro e wr ⟨rfl,rfl⟩))
     have hrE:Row w.heap.size wr (.slice oo O.length ocap) (varsL (t.take (k+1))):=by rw [E1.out];exact hr
     have hME:MetAt wr w.heap.size (varsL (t.take (k+1))):=by rw [E1.out];exact hM
     exact ⟨⟨k+1,by omega,by go_num,hrE,hME,hne,hs⟩,by simp [intOf];omega⟩
    | false=>
     have E1:Hid (varsL (t.take (k+1))=O ++ [(v:Int)]):=by show _=_;rw [E.out,vstep_yes hv (by simpa using hin)];simp
     rw [hin] at q1
     have hb8:(O.length+1) * 8≤140737488355328:=by omega
     have hMs:=hM.set hv1 hv2
     have ks:Kept (fun k=>k=w.heap.size) wr (wr.setCell ⟨w.heap.size,v,none⟩ (.bool true)):=Kept.setCell (S:=fun k=>k=w.heap.size) (p:=⟨w.heap.size,v,none⟩) (Kept.refl _ _) (fun _=>rfl) _
     have hrs:Row w.heap.size (wr.setCell ⟨w.heap.size,v,none⟩ (.bool true)) (.slice oo O.length ocap) O:=ks.row hr (fun k e e' => hne (by rw [e,e']))
     have hss:Same0 w (wr.setCell ⟨w.heap.size,v,none⟩ (.bool true)):=hs.own (Nat.le_refl _) _
     have hsz:=hss.size
     have hAl:w.heap.size<wr.heap.size:=by obtain ⟨cs,q,_⟩:=hM;exact lt_of_at q
     have E3:Hid ((wr.setCell ⟨w.heap.size,v,none⟩ (.bool true)).heap.size=wr.heap.size):=by show _=_;simp [World.setCell]
     clear hM hr
     go_wp2_with (first | (go_at_call 138;refine (cV _).mono ?_;rintro e wr ⟨rfl,rfl⟩) | (at_builtin;refine wpList_push rfl _ _ 22 rfl Tryz.underlying22 w.heap.size O (.slice oo O.length ocap) rfl hrs (v:Int) (by rw [E3.out];rfl) hsz hb8 ?_;intro g gcap w4 hr4 hk4 hat4;have hs4:=hss.onto hrs hk4))
     have hM4:MetAt w4 w.heap.size (O ++ [(v:Int)]):=hMs.kept hk4 hne
     have hne4:Value.ownBlock (.slice (some ⟨g,0,none⟩) (O.length+1) gcap)≠some w.heap.size:=by
      simp only [Value.ownBlock,ne_eq,Option.some.injEq]
      rcases hat4 with e | e
      ·intro e'; exact hne (by rw [e,e'])
      ·have e3:=E3.out
       omega
     rw [← E1.out] at hr4 hM4
     go_roundw
     case rel=>first | exact ⟨k+1,by omega,by go_num,hr4,hM4,hne4,hs4⟩ | ((repeat apply Exists.intro);exact ⟨⟨k+1,by omega,by go_num,hr4,hM4,hne4,hs4⟩,rfl⟩)
     case measure=>simp [intOf];omega
  ·obtain rfl:k=t.length:=by omega
   rw [List.take_length] at hr
   go_wp2
   go_ret
   refine ⟨_,rfl,?_,hs⟩
   simpa using hr
def Lists (w:World) (lo:Option Addr) (ls:List (List Int)):Prop:=
 ls=[]∨∃ b off,lo=some ⟨b,off,none⟩∧b<w.heap.size∧∀ i (h:i<ls.length),∃ ao cap,w.cell? ⟨b,off+i,none⟩=some (.slice ao ls[i].length cap)∧IntsAt w ao ls[i]∧(ao=none→ls[i].length=0∧cap=0)
theorem Lists.same {w w' : World} {lo:Option Addr} {ls:List (List Int)} (h:Lists w lo ls) (hk:Same0 w w'):Lists w' lo ls:=by
 refine h.imp id ?_
 rintro ⟨b,off,rfl,hlt,hc⟩
 refine ⟨b,off,rfl,Nat.lt_of_lt_of_le hlt hk.size,fun i hi=>?_⟩
 obtain ⟨ao,cap,c1,c2,c3⟩:=hc i hi
 exact ⟨ao,cap,(hk.cell (p:=⟨b,off+i,none⟩) hlt (fun f=>f)).trans c1,c2.same hk,c3⟩
theorem Lists.get {w:World} {lo:Option Addr} {ls:List (List Int)} (h:Lists w lo ls) {i:Nat} (hi:i<ls.length):∃ b off ao cap,lo=some ⟨b,off,none⟩∧b<w.heap.size∧w.cell? ⟨b,off+i,none⟩=some (.slice ao ls[i].length cap)∧IntsAt w ao ls[i]∧(ao=none→ls[i].length=0∧cap=0):=by
 rcases h with rfl | ⟨b,off,e,hlt,hc⟩
 ·simp at hi
 ·obtain ⟨ao,cap,c1,c2,c3⟩:=hc i hi
  exact ⟨b,off,ao,cap,e,hlt,c1,c2,c3⟩
structure PlAt (s:Nat) (wr:World) (g n:Nat) (cs:List Value) (done:List (List Int)):Prop where
 row:wr.ownsRow s 64 1 (.slice (some ⟨g,0,none⟩) n n) n cs
 len:done.length≤n
 each:∀ j (h:j<done.length),∃ v,cs[j]? = some v∧Row s wr v done[j]∧v.ownBlock≠some g
 apart:∀ i j vi vj,i<done.length→j<done.length→i≠j→cs[i]? = some vi→cs[j]? = some vj→∀ k,vi.ownBlock=some k→vj.ownBlock≠some k
theorem PlAt.kept {s:Nat} {wr w' : World} {g n:Nat} {cs:List Value} {done:List (List Int)} {S:Nat→Prop} (h:PlAt s wr g n cs done) (hk:Kept S wr w') (hn:∀ k,s≤k→k<wr.heap.size→(k=g∨∃ v∈cs,v.ownBlock=some k)→¬ S k):PlAt s w' g n cs done:=by
 have gl:=h.row.lt g rfl
 refine ⟨hk.row h.row (fun k e=>?_),h.len,fun j hj=>?_,h.apart⟩
 ·have e' : k=g:=by simpa [Value.ownBlock] using e.symm
  subst e'
  exact hn k gl.1 gl.2 (.inl rfl)
 ·obtain ⟨v,h1,h2,h3⟩:=h.each j hj
  refine ⟨v,h1,hk.row h2 (fun k e=>?_),h3⟩
  have:=h2.lt k e
  exact hn k this.1 this.2 (.inr ⟨v,List.mem_of_getElem? h1,e⟩)
theorem PlAt.same {s:Nat} {wr w' : World} {g n:Nat} {cs:List Value} {done:List (List Int)} (h:PlAt s wr g n cs done) (hk:Same0 wr w'):PlAt s w' g n cs done:=h.kept hk (fun _ _ _ _ f=>f)
theorem PlAt.cell {s:Nat} {wr:World} {g n:Nat} {cs:List Value} {done:List (List Int)} (h:PlAt s wr g n cs done) {j:Nat} (hj:j<n):∃ v,cs[j]? = some v∧wr.cell? ⟨g,j,none⟩=some v∧wr.frozen? ⟨g,j,none⟩=false:=by
 have hl:j<cs.length:=by have:=h.row.1;omega
 exact ⟨cs[j],List.getElem?_eq_getElem hl,(h.row.cellAt j (by omega)).trans (List.getElem?_eq_getElem hl),h.row.frozenAt j⟩
theorem PlAt.add {s:Nat} {wr:World} {g n:Nat} {cs:List Value} {done:List (List Int)} (h:PlAt s wr g n cs done) {v:Value} {t:List Int} (hr:Row s wr v t) (hd:done.length<n) (hg:v.ownBlock≠some g) (hv:∀ j vj,j<done.length→cs[j]? = some vj→∀ k,v.ownBlock=some k→vj.ownBlock≠some k) :
  PlAt s (wr.setCell ⟨g,done.length,none⟩ v) g n (cs.set done.length v) (done ++ [t]):=by
 have hl:cs.length=n:=by have:=h.row.1;omega
 have ks:Kept (fun k=>k=g) wr (wr.setCell ⟨g,done.length,none⟩ v):=Kept.setCell (S:=fun k=>k=g) (p:=⟨g,done.length,none⟩) (Kept.refl _ _) (fun _=>rfl) _
 refine ⟨(h.row.stored done.length v).1,by simp;omega,fun j hj=>?_,?_⟩
 ·by_cases e:j=done.length
  ·subst e
   refine ⟨v,List.getElem?_set_self (by omega),?_,hg⟩
   simpa using ks.row hr (fun k e e' => hg (by rw [e,e']))
  ·have hj' : j<done.length:=by simp at hj;omega
   obtain ⟨v', h1,h2,h3⟩:=h.each j hj'
   refine ⟨v', by rw [List.getElem?_set_ne (by omega)];exact h1,?_,h3⟩
   rw [List.getElem_append_left hj']
   exact ks.row h2 (fun k e e' => h3 (by rw [e,e']))
 ·intro i j vi vj hi hj hij hvi hvj k hk
  simp at hi hj
  by_cases e1:i=done.length
  ·subst e1
   rw [List.getElem?_set_self (by omega)] at hvi
   cases hvi
   rw [List.getElem?_set_ne (by omega)] at hvj
   exact hv j vj (by omega) hvj k hk
  ·rw [List.getElem?_set_ne (by omega)] at hvi
   by_cases e2:j=done.length
   ·subst e2
    rw [List.getElem?_set_self (by omega)] at hvj
    cases hvj
    intro e3
    exact hv i vi (by omega) hvi k e3 hk
   ·rw [List.getElem?_set_ne (by omega)] at hvj
    exact h.apart i j vi vj (by omega) (by omega) hij hvi hvj k hk
theorem PlAt.put {s:Nat} {wr:World} {g n:Nat} {cs:List Value} {done:List (List Int)} {t:List Int} (h:PlAt s wr g n cs (done ++ [t])) {k:Nat} (hk:k<t.length) (x:Int) :
  ∃ r cap,cs[done.length]? = some (.slice (some ⟨r,0,none⟩) t.length cap)∧r≠g∧s≤r∧r<wr.heap.size∧wr.cell? ⟨r,k,none⟩=some (.int .i64 t[k])∧wr.frozen? ⟨r,k,none⟩=false∧PlAt s (wr.setCell ⟨r,k,none⟩ (.int .i64 x)) g n cs (done ++ [t.set k x]):=by
 have hd:done.length<(done ++ [t]).length:=by simp
 obtain ⟨v,h1,h2,h3⟩:=h.each done.length hd
 have e0:(done ++ [t])[done.length]=t:=by simp
 rw [e0] at h2
 obtain ⟨r,cap,hv,hb,hlt⟩:=h2.form (by omega)
 subst hv
 have hrg:r≠g:=fun e=>h3 (by rw [e];rfl)
 have hrow:=h2
 have ks:Kept (fun k=>k=r) wr (wr.setCell ⟨r,k,none⟩ (.int .i64 x)):=Kept.setCell (S:=fun k=>k=r) (p:=⟨r,k,none⟩) (Kept.refl _ _) (fun _=>rfl) _
 refine ⟨r,cap,h1,hrg,hb,hlt,(hrow.cellAt k (by omega)).trans (iv_get hk),hrow.frozenAt k,⟨ks.row h.row (fun k' e e' => hrg (by simp [Value.ownBlock] at e;omega)),by have:=h.len;simpa using this,fun j hj=>?_,?_⟩⟩
 ·by_cases e:j=done.length
  ·subst e
   refine ⟨_,h1,?_,h3⟩
   have:=(hrow.stored k (.int .i64 x)).1
   have e1:(done ++ [t.set k x])[done.length]=t.set k x:=by simp
   rw [e1]
   unfold Row
   rw [List.length_set]
   have e2:iv (t.set k x)=(iv t).set k (.int .i64 x):=by simp [iv,List.map_set]
   rw [e2];exact this
  ·have hj' : j<done.length:=by simp at hj;omega
   obtain ⟨v', g1,g2,g3⟩:=h.each j (by simp;omega)
   refine ⟨v', g1,?_,g3⟩
   rw [List.getElem_append_left hj'] at g2 ⊢
   refine ks.row g2 (fun k' e1 e2=>?_)
   exact h.apart j done.length v' _ (by simp;omega) (by simp) (by omega) g1 h1 k' e1 (by simp [Value.ownBlock];omega)
 ·intro i j vi vj hi hj
  exact h.apart i j vi vj (by simpa using hi) (by simpa using hj)
theorem row_prefix {base g:Nat} {w:World} {xs ys:List Int} {m c:Nat} (h:Row base w (.slice (some ⟨g,0,none⟩) m c) (xs++ys)):IntsAt w (some ⟨g,0,none⟩) xs:=by
 obtain ⟨ao,cap,hv,hi,_,_⟩:=h.ints
 cases hv
 rcases hi with e | ⟨b,off,e,hlt,hc⟩
 ·exact .inl (by simp at e;exact e.1)
 ·cases e
  refine .inr ⟨_,_,rfl,hlt,fun i hi=>?_⟩
  have:=hc i (by simp;omega)
  rwa [List.getElem_append_left hi] at this
def Over (base g n:Nat) (w wr:World):Prop:=(∃ ys,wr.ownsRow base 3 1 (.slice (some ⟨g,0,none⟩) n n) n ys)∧Kept (fun k=>k=g) w wr
theorem Over.store {base g n:Nat} {w wr:World} (h:Over base g n w wr) (k:Nat) (u:Value):Over base g n w (wr.setCell ⟨g,k,none⟩ u):=by
 obtain ⟨⟨ys,h1⟩,h2⟩:=h
 exact ⟨⟨_,(h1.stored k u).1⟩,h2.setCell (p:=⟨g,k,none⟩) (fun _=>rfl) u⟩
def OverA (base:Nat) (v:Value) (B:Nat→Prop) (n:Nat) (w wr:World):Prop:=∃ zs:List Int,zs.length=n∧Row base wr v zs∧(∀ k,v.ownBlock=some k→B k)∧Kept B w wr
theorem OverA.at {base:Nat} {ao:Option Addr} {cap n:Nat} {B:Nat→Prop} {w wr:World} (h:OverA base (.slice ao n cap) B n w wr) {k:Nat} (hk:k<n):∃ g,ao=some ⟨g,0,none⟩∧∃ old,wr.cell? ⟨g,k,none⟩=some old∧wr.frozen? ⟨g,k,none⟩=false:=by
 obtain ⟨zs,rfl,h1,_,_⟩:=h
 obtain ⟨g,cap', hv,_,_⟩:=h1.form (by omega)
 cases hv
 exact ⟨g,rfl,row_put h1 hk⟩
theorem OverA.store {base g:Nat} {cap n:Nat} {B:Nat→Prop} {w wr:World} (h:OverA base (.slice (some ⟨g,0,none⟩) n cap) B n w wr) (k:Nat) (x:Int):OverA base (.slice (some ⟨g,0,none⟩) n cap) B n w (wr.setCell ⟨g,k,none⟩ (.int .i64 x)):=by
 obtain ⟨zs,rfl,h1,hB,h2⟩:=h
 refine ⟨zs.set k x,by simp,?_,hB,h2.setCell (p:=⟨g,k,none⟩) (fun _=>hB g rfl) _⟩
 have:=(h1.stored k (.int .i64 x)).1
 unfold Row
 rw [List.length_set]
 have e:iv (zs.set k x)=(iv zs).set k (.int .i64 x):=by simp [iv,List.map_set]
 rw [e];exact this
theorem wpList_more {w0:World} {ops:Array Oper} {rest:List Oper} {o:Oper} {a:Act} {Q:Exit→Act→World→Prop} (hgd:o.guard=none) (s x:Operand) (t:TypeId)
  (ho:o.op=.call { callee:=.builtin .append,args:=#[s,x],argTypes:=#[t,t] }) (ht:Tryz.prog.underlying t=some (.slice 3))
  (base:Nat) (xs:List Int) (v:Value) (hs:a.eval s=v) (hr:Row base w0 v xs) (ys:List Int) (ad:Addr) (m c:Nat) (hx:a.eval x=.slice (some ad) m c) (hm:m=ys.length) (hy:IntsAt w0 (some ad) ys) (hb:base≤w0.heap.size) (hsz:(xs.length+ys.length) * 8≤140737488355328)
  (h:∀ v' w', Row base w' v' (xs++ys)→Kept (fun k=>v.ownBlock=some k) w0 w' → wpList Tryz.prog ops Q rest (a.put o.dst v') w') :
  wpList Tryz.prog ops Q (o :: rest) a w0:=by
 subst hm
 obtain ⟨i,hi,hz0,hz1,hz2⟩:=info_parts info_intT
 refine wpList_append_own _ hgd s x t ho base 3 i (.int .i64 0) 1 8 ht hi hz0 hz1 hz2 rfl (by decide) v xs.length (iv xs) hs hr ad ys.length c (iv ys) hx (by rw [iv_length];omega) (fun j u hj=>?_) (iv_oneCell ys) (by unfold maxLen;omega) hsz hb ?_
 ·obtain ⟨ad', e,hc⟩:=hy.src (by have:=(List.getElem?_eq_some_iff.1 hj).1;omega)
  cases e
  exact hc j u hj
 ·intro v' w' hown hgrow _
  refine h v' w' ?_ (Kept.grown (Kept.refl _ w0) hgrow (fun _ e _=>e))
  unfold Row;rw [iv_append,List.length_append];exact hown
theorem row_empty (w:World) (base:Nat) (hb:base≤w.heap.size) {o:Obj} (ho:o=.cells #[] 3 (0,0)):Row base (w.alloc o) (.slice (some ⟨w.heap.size,0,none⟩) 0 0) []:=by
 subst ho
 exact ⟨rfl,.inr ⟨w.heap.size,0, #[],rfl,hb,heap_alloc_new w _,Nat.le_refl _,by unfold maxLen;omega,rfl,rfl⟩⟩
end Go.Proofs.YtdhiiicppcgkbaaGreat
