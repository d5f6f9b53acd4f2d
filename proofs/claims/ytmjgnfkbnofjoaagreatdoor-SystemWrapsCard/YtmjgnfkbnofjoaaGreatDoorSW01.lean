import Derived.WalkKit
import Derived.WalkSpells
import Derived.Maps.OwnSet
import Derived.Deep.AppendLies
import Derived.Deep.QuietTactic
import Derived.BigQuiet
import Derived.Below
import Derived.WideShapes
import Derived.Test.YtmjgnfkbnofjoaaGreatDoorProg
import Derived.KernelRfl
import Derived.Handy
import Derived.LaidEql
import Derived.Stop.Asserts
import Derived.RowKitTokens
import Derived.Test.YtmjgnfkbnofjoaaGreatDoorRows
import Derived.ProofKit
import Derived.LaidMore
import Derived.LaidHandle
import Derived.OpenShut
import Derived.Stop.Joined
namespace Go.Proofs.YtmjgnfkbnofjoaaGreatDoor
open Go.RowKit
structure Kept (S:Nat→Prop) (w w' : World):Prop where
 os:w'.os=w.os
 tape:w'.tape=w.tape
 output:w'.output=w.output
 size:w.heap.size≤w'.heap.size
 block:∀ k,k<w.heap.size→¬ S k→w'.heap[k]? = w.heap[k]?
theorem Kept.refl (S:Nat→Prop) (w:World):Kept S w w:=⟨rfl,rfl,rfl,Nat.le_refl _,fun _ _ _=>rfl⟩
theorem Kept.trans {S S' : Nat→Prop} {a b c:World} (h:Kept S a b) (k:Kept S' b c) (hs:∀ i,i<a.heap.size→S' i→S i):Kept S a c:=
 ⟨k.os.trans h.os,k.tape.trans h.tape,k.output.trans h.output,Nat.le_trans h.size k.size,fun i hi hn=>(k.block i (Nat.lt_of_lt_of_le hi h.size) (fun x=>hn (hs i hi x))).trans (h.block i hi hn)⟩
theorem Kept.mono {S S' : Nat→Prop} {w w' : World} (h:Kept S w w') (hs:∀ i,i<w.heap.size→S i→S' i):Kept S' w w' :=
 ⟨h.os,h.tape,h.output,h.size,fun k hk hn=>h.block k hk (fun x=>hn (hs k hk x))⟩
theorem Kept.drew {S:Nat→Prop} {a w:World} (h:Kept S a w):Kept S a w.drew:=⟨h.os,h.tape,h.output,h.size,h.block⟩
theorem Kept.drewN {S:Nat→Prop} {a w:World} (h:Kept S a w) (n:Nat):Kept S a (w.drewN n):=⟨h.os,h.tape,h.output,h.size,h.block⟩
theorem Kept.alloc {S:Nat→Prop} {a w:World} (h:Kept S a w) (o:Obj):Kept S a (w.alloc o):=
 h.trans (S' := fun _=>False) ⟨rfl,rfl,rfl,by simp,fun k hk _=>Below.heap_alloc _ _ _ hk⟩ (fun _ _ x=>x.elim)
theorem Kept.setCell {S:Nat→Prop} {a w:World} (h:Kept S a w) {p:Addr} (hp:p.block<a.heap.size→S p.block) (u:Value):Kept S a (w.setCell p u):=
 h.trans (S' := fun k=>k=p.block) ⟨rfl,rfl,rfl,by simp [World.setCell],fun k _ hn=>Below.heap_setCell _ _ _ _ hn⟩ (fun i hi e=>by subst e;exact hp hi)
theorem Kept.grown {S:Nat→Prop} {a w w' : World} {row:Option Nat} (h:Kept S a w) (hg:w.grownBy w' row) (hr:∀ k,row=some k→k<a.heap.size→S k):Kept S a w' :=
 h.trans (S' := fun k=>row=some k) ⟨hg.os,hg.tape,hg.output,hg.size,fun k hk hn=>hg.block k hk (fun e=>hn e.symm)⟩ (fun i hi e=>hr i e hi)
theorem Kept.below {S:Nat→Prop} {w w' : World} {B:Nat} (h:Kept S w w') (hB:B≤w.heap.size) (hs:∀ k,k<B→¬ S k):Below B w w' :=
 ⟨h.os,h.tape,h.output,h.size,fun k hk=>h.block k (by omega) (hs k hk)⟩
theorem Kept.cell {S:Nat→Prop} {w w' : World} (h:Kept S w w') {p:Addr} (hp:p.block<w.heap.size) (hn:¬ S p.block):w'.cell? p=w.cell? p:=World.cell?_of_block (h.block p.block hp hn)
theorem Kept.at {S:Nat→Prop} {w w' : World} (h:Kept S w w') {b:Nat} {o:Obj} (hb:w.heap[b]? = some o) (hn:¬ S b):w'.heap[b]? = some o:=
 (h.block b (Array.getElem?_eq_some_iff.1 hb).1 hn).trans hb
theorem lt_of_at {w:World} {b:Nat} {o:Obj} (hb:w.heap[b]? = some o):b<w.heap.size:=(Array.getElem?_eq_some_iff.1 hb).1
theorem Kept.row {S:Nat→Prop} {w w' : World} (h:Kept S w w') {base:Nat} {e:TypeId} {size:Nat} {v:Value} {n:Nat} {xs:List Value} (hr:w.ownsRow base e size v n xs) (hn:∀ k,v.ownBlock=some k→¬ S k):w'.ownsRow base e size v n xs:=by
 refine ⟨hr.1,?_⟩
 rcases hr.2 with h0 | ⟨g,cap,cur,rfl,hb,hg,r⟩
 ·exact .inl h0
 ·exact .inr ⟨g,cap,cur,rfl,hb,h.at hg (hn g rfl),r⟩
theorem Kept.map {S:Nat→Prop} {w w' : World} (h:Kept S w w') {H:Type} {P:Program} {k:TypeId} {R:Value→Option (DataW H × List MemPlace)} {b n:Nat} {D:DataW H} (hm:w.ownsMap P k R b n D) (hn:¬ S b):w'.ownsMap P k R b n D:=by
 obtain ⟨es,clock,hb,r⟩:=hm
 exact ⟨es,clock,h.at hb hn,r⟩
theorem cellAt {w:World} {b:Nat} {cs:Array Value} {t:TypeId} {fr:Nat × Nat} (h:w.heap[b]? = some (.cells cs t fr)) (o:Nat):w.cell? ⟨b,o,none⟩=cs[o]? := by
 simp [World.cell?,h]
theorem frozenAt {w:World} {b:Nat} {cs:Array Value} {t:TypeId} (h:w.heap[b]? = some (.cells cs t (0,0))) (o:Nat):w.frozen? ⟨b,o,none⟩=false:=by
 simp [World.frozen?,h]
theorem setAt {w:World} {b:Nat} {cs:Array Value} {t:TypeId} {fr:Nat × Nat} (h:w.heap[b]? = some (.cells cs t fr)) (o:Nat) (v:Value):(w.setCell ⟨b,o,none⟩ v).heap[b]? = some (.cells (cs.setIfInBounds o v) t fr):=by
 simp [World.setCell,Array.getElem?_modify,h]
theorem row_shape {w:World} {base:Nat} {e:TypeId} {size:Nat} {v:Value} {n:Nat} {xs:List Value} (h:w.ownsRow base e size v n xs):∃ ao cap,v=.slice ao n cap:=by
 rcases h.2 with ⟨rfl,h0⟩ | ⟨g,cap,cur,rfl,_⟩
 ·exact ⟨none,0,by rw [h0]⟩
 ·exact ⟨_,cap,rfl⟩
theorem row_mono {w:World} {base base' : Nat} {e:TypeId} {size:Nat} {v:Value} {n:Nat} {xs:List Value} (h:w.ownsRow base e size v n xs) (hb:base' ≤ base):w.ownsRow base' e size v n xs:=by
 refine ⟨h.1,h.2.imp id ?_⟩
 rintro ⟨g,cap,cur,hv,hg,r⟩
 exact ⟨g,cap,cur,hv,by omega,r⟩
theorem ret_bool {a b:Bool} (h:a=b):Ending.returned (.bool a)=.returned (.bool b):=by rw [h]
theorem ret_int {k:IntKind} {a b:Int} (h:a=b):Ending.returned (.int k a)=.returned (.int k b):=by rw [h]
theorem str_ne {a b:ByteArray} (h:¬ a=b):(a.toList == b.toList)=false  := by
 rw [beq_eq_false_iff_ne]
 intro e
 rw [ByteArray.toList_eq,ByteArray.toList_eq] at e
 exact h (Go.WideShapes.bytes_inj e)
abbrev Same0:World→World→Prop:=Kept (fun _=>False)
theorem Same0.trans' {a b c:World} (h:Same0 a b) (k:Same0 b c):Same0 a c:=Kept.trans h k (fun _ _ f=>f)
theorem Same0.of_below {w w' : World} (h:Below w.heap.size w w'):Same0 w w' := ⟨h.os,h.tape,h.output,h.size,fun k hk _=>h.block k hk⟩
theorem Same0.below {w w' : World} (h:Same0 w w'):Below w.heap.size w w' := Kept.below h (Nat.le_refl _) (fun _ _ f=>f)
theorem Same0.at0 {w w' : World} (h:Same0 w w') {b:Nat} {o:Obj} (hb:w.heap[b]? = some o):w'.heap[b]? = some o:=Kept.at h hb (fun f=>f)
end Go.Proofs.YtmjgnfkbnofjoaaGreatDoor
namespace Go.Proofs.YtmjgnfkbnofjoaaGreatDoor
open Go.RowKit Go.Extern.Stop Go.Stop Go.Extern
set_option linter.unusedVariables false
set_option maxRecDepth 100000
theorem is_typeOf (v:Value) (w:World):(Extern.ReflectliteType.typeOf #[.iface 70 v]).run Tryz.prog w=.ok (.iface 192 (.agg #[.pointer (some ⟨1,70,none⟩)])) w:=by kernel_rfl
theorem is_comparable (w : World) : (callFunc 264 #[.agg #[.pointer (some ⟨1, 70, none⟩)]]).run Tryz.prog w = .ok (.value (.bool true)) w :=
  (@run_callFunc_extern Tryz.prog 264 _ (Extern.ReflectliteType.method fun t => do Extern.Rtype.noPackHeld "Comparable" t; pure (.bool (← typeInfo t).comparable)) Tryz.func264 (by kernel_rfl) (by kernel_rfl) (by kernel_rfl) (by kernel_rfl) _ w).trans (by kernel_rfl)
theorem is_mComparable (v : Value) (w : World) : (Go.method 496 192 v "Comparable").run Tryz.prog w = .ok (264, v) w := by kernel_rfl
theorem is_noIs (v:Value) (xT:TypeId) (w:World):(Instr.typeAssert (.iface 70 v) xT 194 true).run Tryz.prog w=.ok (.tuple #[.nilIface,.bool false]) w:=run_typeAssert_lacksB Tryz.underlying194 (by kernel_rfl) (by kernel_rfl) v xT w
theorem is_noUnwrap (v:Value) (xT:TypeId) (w:World):(Instr.typeAssert (.iface 70 v) xT 197 true).run Tryz.prog w=.ok (.tuple #[.nilIface,.bool false]) w:=run_typeAssert_lacksB Tryz.underlying197 (by kernel_rfl) (by kernel_rfl) v xT w
theorem is_noUnwraps (v:Value) (xT:TypeId) (w:World):(Instr.typeAssert (.iface 70 v) xT 199 true).run Tryz.prog w=.ok (.tuple #[.nilIface,.bool false]) w:=run_typeAssert_lacksB Tryz.underlying199 (by kernel_rfl) (by kernel_rfl) v xT w
theorem is_hasIs (v:Value) (xT:TypeId) (w:World):(Instr.typeAssert (.iface 114 v) xT 194 true).run Tryz.prog w=.ok (.tuple #[.iface 114 v,.bool true]) w:=run_typeAssert_hasB Tryz.underlying194 (by kernel_rfl) v xT w
theorem is_hasUnwrap (v:Value) (xT:TypeId) (w:World):(Instr.typeAssert (.iface 114 v) xT 197 true).run Tryz.prog w=.ok (.tuple #[.iface 114 v,.bool true]) w:=run_typeAssert_hasB Tryz.underlying197 (by kernel_rfl) v xT w
theorem is_mIs (v : Value) (w : World) : (Go.method 496 114 v "Is").run Tryz.prog w = .ok (259, v) w := by kernel_rfl
theorem is_mUnwrap (v : Value) (w : World) : (Go.method 496 114 v "Unwrap").run Tryz.prog w = .ok (260, v) w := by kernel_rfl
theorem is_eqE (a b:Int) (w:World):(binOp .eql 46 (.iface 70 (.int .i64 a)) (.iface 70 (.int .i64 b))).run Tryz.prog w=.ok (.bool (a == b)) w:=by kernel_rfl
theorem is_eqF (v u:Value) (w:World):(binOp .eql 46 (.iface 114 v) (.iface 70 u)).run Tryz.prog w=.ok (.bool false) w:=by kernel_rfl
theorem is_asE (v:Value) (xT:TypeId) (w:World):(Instr.typeAssert (.iface 70 v) xT 70 true).run Tryz.prog w=.ok (.tuple #[v,.bool true]) w:=by kernel_rfl
theorem is_nilE (v:Value) (w:World):(binOp .eql 46 .nilIface (.iface 70 v)).run Tryz.prog w=.ok (.bool false) w:=by kernel_rfl
def FltAt (w:World):List (Int × Int)→Value→Prop
 | [],v=>v=.nilIface
 | (c,p) :: r,v=>(p = -1∧r=[]∧v=.iface 70 (.int .i64 c))∨(p ≠ -1∧∃ b u,v=.iface 114 (.pointer (some ⟨b,0,none⟩))∧w.heap[b]? = some (.cells #[.int .i64 c,.int .i64 p,u] 116 (0,0))∧FltAt w r u)
theorem FltAt.same {w w' : World} (hk:Same0 w w'):∀ {ws:List (Int × Int)} {v:Value},FltAt w ws v→FltAt w' ws v
 | [],_,h=>h
 | (c,p) :: r,v,h=>by
  rcases h with h | ⟨h0,b,u,h1,h2,h3⟩
  ·exact .inl h
  ·exact .inr ⟨h0,b,u,h1,hk.at0 h2,FltAt.same hk h3⟩
theorem fIs_any {w:World} {b:Nat} {c p:Int} {u:Value} (h:w.heap[b]? = some (.cells #[.int .i64 c,.int .i64 p,u] 116 (0,0))) (d:Int) :
  Calls Tryz.prog 259 #[.pointer (some ⟨b,0,none⟩),.iface 70 (.int .i64 d)] w fun e w' => e=.returned (.bool (d == c))∧w' = w:=by
 have aE:=is_asE
 have b0:=cellAt h 0
 simp only [List.getElem?_toArray,List.getElem?_cons_zero] at b0
 clear h
 by_cases hd:d=c
 ·have e1:(d == c)=true:=by simpa using hd
  go_enter Tryz.func259,Tryz.ntmps259
  go_wp2
  go_ret
  exact ⟨by rw [e1];rfl,rfl⟩
 ·have e1:(d == c)=false:=by simpa using hd
  go_enter Tryz.func259,Tryz.ntmps259
  go_wp2
  go_ret
  exact ⟨by rw [e1];rfl,rfl⟩
theorem fUnwrap_any {w:World} {b:Nat} {c p:Int} {u:Value} (h:w.heap[b]? = some (.cells #[.int .i64 c,.int .i64 p,u] 116 (0,0))) :
  Calls Tryz.prog 260 #[.pointer (some ⟨b,0,none⟩)] w fun e w' => e=.returned u∧w' = w:=by
 have b0:=cellAt h 2
 simp only [List.getElem?_toArray,List.getElem?_cons_zero,List.getElem?_cons_succ] at b0
 clear h
 go_enter Tryz.func260,Tryz.ntmps260
 go_wp2
 go_ret
 exact ⟨rfl,rfl⟩
theorem is_one (a d:Int) (w:World):Calls Tryz.prog 27 #[.iface 70 (.int .i64 a),.iface 70 (.int .i64 d)] w fun e w' => e=.returned (.bool (a == d))∧w' = w:=by
 have h8:=@run_callFunc_extern Tryz.prog 56 _ Extern.ReflectliteType.typeOf Tryz.func56 (by kernel_rfl) (by kernel_rfl) (by kernel_rfl) (by kernel_rfl)
 have tT:=is_typeOf
 have cT:=is_comparable
 have mR:=is_mComparable
 have nE:=is_noIs
 have uE:=is_noUnwrap
 have vE:=is_noUnwraps
 by_cases hd:a=d
 ·subst hd
  have e1:(a == a)=true:=by simp
  have eq:=is_eqE a a
  rw [e1] at eq ⊢
  clear e1
  go_enter Tryz.func27,Tryz.ntmps27
  go_wp2
  refine wp_loop_rounds 1 ?_
  rw [rounds_succ]
  go_wp2
  go_ret
  exact ⟨rfl,rfl⟩
 ·have e1:(a == d)=false:=by simpa using hd
  have eq:=is_eqE a d
  rw [e1] at eq ⊢
  clear hd e1
  go_enter Tryz.func27,Tryz.ntmps27
  go_wp2
  refine wp_loop_rounds 1 ?_
  rw [rounds_succ]
  go_wp2
  go_ret
  exact ⟨rfl,rfl⟩
theorem is_fault {w:World} {b:Nat} {c p:Int} (h:w.heap[b]? = some (.cells #[.int .i64 c,.int .i64 p,.nilIface] 116 (0,0))) (d:Int) :
  Calls Tryz.prog 27 #[.iface 114 (.pointer (some ⟨b,0,none⟩)),.iface 70 (.int .i64 d)] w fun e w' => e=.returned (.bool (d == c))∧w' = w:=by
 have h8:=@run_callFunc_extern Tryz.prog 56 _ Extern.ReflectliteType.typeOf Tryz.func56 (by kernel_rfl) (by kernel_rfl) (by kernel_rfl) (by kernel_rfl)
 have tT:=is_typeOf
 have cT:=is_comparable
 have mR:=is_mComparable
 have nE:=is_hasIs
 have uE:=is_hasUnwrap
 have m1:=is_mIs
 have m2:=is_mUnwrap
 have eq:=is_eqF
 have c1:=fIs_any h d
 have c2:=fUnwrap_any h
 clear h
 generalize (d == c)=r at *
 cases r
 ·go_enter Tryz.func27,Tryz.ntmps27
  go_wp2
  refine wp_loop_rounds 1 ?_
  rw [rounds_succ]
  go_wp2_with (first | (go_at_call 259;refine c1.mono ?_;rintro e w' ⟨rfl,rfl⟩) | (go_at_call 260;refine c2.mono ?_;rintro e w' ⟨rfl,rfl⟩))
  go_ret
  exact ⟨rfl,rfl⟩
 ·go_enter Tryz.func27,Tryz.ntmps27
  go_wp2
  refine wp_loop_rounds 1 ?_
  rw [rounds_succ]
  go_wp2_with (first | (go_at_call 259;refine c1.mono ?_;rintro e w' ⟨rfl,rfl⟩) | (go_at_call 260;refine c2.mono ?_;rintro e w' ⟨rfl,rfl⟩))
  go_ret
  exact ⟨rfl,rfl⟩
set_option maxHeartbeats 4000000 in
theorem is_fault_one {w:World} {b:Nat} {c p:Int} {k:Int} (h:w.heap[b]? = some (.cells #[.int .i64 c,.int .i64 p,.iface 70 (.int .i64 k)] 116 (0,0))) (d:Int) :
  Calls Tryz.prog 27 #[.iface 114 (.pointer (some ⟨b,0,none⟩)),.iface 70 (.int .i64 d)] w fun e w' => e=.returned (.bool ((d == c) || k == d))∧w' = w:=by
 have h8:=@run_callFunc_extern Tryz.prog 56 _ Extern.ReflectliteType.typeOf Tryz.func56 (by kernel_rfl) (by kernel_rfl) (by kernel_rfl) (by kernel_rfl)
 have tT:=is_typeOf
 have cT:=is_comparable
 have mR:=is_mComparable
 have nE:=is_hasIs
 have uE:=is_hasUnwrap
 have m1:=is_mIs
 have m2:=is_mUnwrap
 have eq:=is_eqF
 have c1:=fIs_any h d
 have c2:=fUnwrap_any h
 have eqk:=is_eqE k d w
 have nE' := is_noIs
 have uE' := is_noUnwrap
 have vE' := is_noUnwraps
 clear h
 generalize (d == c)=r at *
 cases r
 ·simp only [Bool.false_or]
  generalize (k == d)=q at *
  cases q
  ·go_enter Tryz.func27,Tryz.ntmps27
   go_wp2
   refine wp_loop_rounds 2 ?_
   rw [rounds_succ]
   go_wp2_with (first | (go_at_call 259;refine c1.mono ?_;rintro e w' ⟨rfl,rfl⟩) | (go_at_call 260;refine c2.mono ?_;rintro e w' ⟨rfl,rfl⟩))
   rw [rounds_succ]
   go_wp2
   go_ret
   exact ⟨rfl,rfl⟩
  ·go_enter Tryz.func27,Tryz.ntmps27
   go_wp2
   refine wp_loop_rounds 2 ?_
   rw [rounds_succ]
   go_wp2_with (first | (go_at_call 259;refine c1.mono ?_;rintro e w' ⟨rfl,rfl⟩) | (go_at_call 260;refine c2.mono ?_;rintro e w' ⟨rfl,rfl⟩))
   rw [rounds_succ]
   go_wp2
   go_ret
   exact ⟨rfl,rfl⟩
 ·simp only [Bool.true_or]
  clear c2
  go_enter Tryz.func27,Tryz.ntmps27
  go_wp2
  refine wp_loop_rounds 2 ?_
  rw [rounds_succ]
  go_wp2_with (first | (go_at_call 259;refine c1.mono ?_;rintro e w' ⟨rfl,rfl⟩))
  go_ret
  exact ⟨rfl,rfl⟩
set_option maxHeartbeats 4000000 in
theorem is_fault_two {w:World} {b:Nat} {c p:Int} {b' : Nat} {c' p' : Int} (h:w.heap[b]? = some (.cells #[.int .i64 c,.int .i64 p,.iface 114 (.pointer (some ⟨b', 0,none⟩))] 116 (0,0))) (h' : w.heap[b']? = some (.cells #[.int .i64 c', .int .i64 p', .nilIface] 116 (0,0))) (d:Int) :
  Calls Tryz.prog 27 #[.iface 114 (.pointer (some ⟨b,0,none⟩)),.iface 70 (.int .i64 d)] w fun e w' => e=.returned (.bool ((d == c) || d == c'))∧w' = w:=by
 have h8:=@run_callFunc_extern Tryz.prog 56 _ Extern.ReflectliteType.typeOf Tryz.func56 (by kernel_rfl) (by kernel_rfl) (by kernel_rfl) (by kernel_rfl)
 have tT:=is_typeOf
 have cT:=is_comparable
 have mR:=is_mComparable
 have nE:=is_hasIs
 have uE:=is_hasUnwrap
 have m1:=is_mIs
 have m2:=is_mUnwrap
 have eq:=is_eqF
 have c1:=fIs_any h d
 have c2:=fUnwrap_any h
 have c3:=fIs_any h' d
 have c4:=fUnwrap_any h'
 clear h'
 clear h
 generalize (d == c)=r at *
 cases r
 ·simp only [Bool.false_or]
  generalize (d == c')=q at *
  cases q
  ·go_enter Tryz.func27,Tryz.ntmps27
   go_wp2
   refine wp_loop_rounds 2 ?_
   rw [rounds_succ]
   go_wp2_with (first | (go_at_call 259;refine c1.mono ?_;rintro e w' ⟨rfl,rfl⟩) | (go_at_call 260;refine c2.mono ?_;rintro e w' ⟨rfl,rfl⟩))
   rw [rounds_succ]
   go_wp2_with (first | (go_at_call 259;refine c3.mono ?_;rintro e w' ⟨rfl,rfl⟩) | (go_at_call 260;refine c4.mono ?_;rintro e w' ⟨rfl,rfl⟩))
   go_ret
   exact ⟨rfl,rfl⟩
  ·go_enter Tryz.func27,Tryz.ntmps27
   go_wp2
   refine wp_loop_rounds 2 ?_
   rw [rounds_succ]
   go_wp2_with (first | (go_at_call 259;refine c1.mono ?_;rintro e w' ⟨rfl,rfl⟩) | (go_at_call 260;refine c2.mono ?_;rintro e w' ⟨rfl,rfl⟩))
   rw [rounds_succ]
   go_wp2_with (first | (go_at_call 259;refine c3.mono ?_;rintro e w' ⟨rfl,rfl⟩) | (go_at_call 260;refine c4.mono ?_;rintro e w' ⟨rfl,rfl⟩))
   go_ret
   exact ⟨rfl,rfl⟩
 ·simp only [Bool.true_or]
  clear c2
  go_enter Tryz.func27,Tryz.ntmps27
  go_wp2
  refine wp_loop_rounds 2 ?_
  rw [rounds_succ]
  go_wp2_with (first | (go_at_call 259;refine c1.mono ?_;rintro e w' ⟨rfl,rfl⟩))
  go_ret
  exact ⟨rfl,rfl⟩
theorem is_none (d:Int) (w:World):Calls Tryz.prog 27 #[.nilIface,.iface 70 (.int .i64 d)] w fun e w' => e=.returned (.bool false)∧w' = w:=by
 have hn:=is_nilE
 go_enter Tryz.func27,Tryz.ntmps27
 go_wp2
 go_ret
 exact ⟨rfl,rfl⟩
def bears (ws:List (Int × Int)) (d:Int):Bool:=decide (d∈ws.map Prod.fst)
theorem is_any {w:World} {ws:List (Int × Int)} {v:Value} (h:FltAt w ws v) (h2:ws.length≤2) (d:Int) :
  Calls Tryz.prog 27 #[v,.iface 70 (.int .i64 d)] w fun e w' => e=.returned (.bool (bears ws d))∧w' = w:=by
 match ws,h2 with
 | [],_=>
  obtain rfl:v=.nilIface:=h
  exact is_none d w
 | [(c,p)],_=>
  rcases h with ⟨rfl,_,rfl⟩ | ⟨_,b,u,rfl,h1,hu⟩
  ·refine (is_one c d w).mono ?_
   rintro e w' ⟨rfl,rfl⟩
   refine ⟨ret_bool ?_,rfl⟩
   by_cases e:d=c
   ·simp [bears,e]
   ·simp [bears,e];omega
  ·obtain rfl:u=.nilIface:=hu
   refine (is_fault h1 d).mono ?_
   rintro e w' ⟨rfl,rfl⟩
   refine ⟨ret_bool ?_,rfl⟩
   by_cases e:d=c <;> simp [bears,e]
 | [(c,p),(c', p')],_=>
  rcases h with ⟨_,e,_⟩ | ⟨_,b,u,rfl,h1,hu⟩
  ·cases e
  ·rcases hu with ⟨rfl,_,rfl⟩ | ⟨_,b', u', rfl,h1', hu'⟩
   ·refine (is_fault_one h1 d).mono ?_
    rintro e w' ⟨rfl,rfl⟩
    refine ⟨ret_bool ?_,rfl⟩
    by_cases e:d=c
    ·simp [bears,e]
    ·by_cases e' : d=c'
     ·simp [bears,e']
     ·have:(c' == d)=false:=by simp;omega
      simp [bears,e,e', this]
   ·obtain rfl:u' = .nilIface:=hu'
    refine (is_fault_two h1 h1' d).mono ?_
    rintro e w' ⟨rfl,rfl⟩
    refine ⟨ret_bool ?_,rfl⟩
    by_cases e:d=c
    ·simp [bears,e]
    ·by_cases e' : d=c' <;> simp [bears,e,e']
theorem rl_unpackPP (t:Addr) (w:World):(ReflectliteValue.unpack (.iface 207 (.pointer (some t)))).run Tryz.prog w=.ok (.agg #[.pointer (some ⟨1,207,none⟩),.pointer (some ⟨w.heap.size,0,none⟩),.int .u64 150]) (w.alloc (.cells #[.pointer (some t)] 207)):=by kernel_rfl
theorem rl_unpackP (e:Addr) (w:World):(ReflectliteValue.unpack (.iface 114 (.pointer (some e)))).run Tryz.prog w=.ok (.agg #[.pointer (some ⟨1,114,none⟩),.pointer (some ⟨w.heap.size,0,none⟩),.int .u64 150]) (w.alloc (.cells #[.pointer (some e)] 114)):=by kernel_rfl
theorem rl_typePP (a : Addr) (w : World) : (ReflectliteValue.methodAny (ReflectliteValue.valueError "reflectlite.Value.Type" 0) (fun t _ _ _ => ReflectliteType.toType t) #[.agg #[.pointer (some ⟨1, 207, none⟩), .pointer (some a), .int .u64 150]]).run Tryz.prog w = .ok (.iface 192 (.agg #[.pointer (some ⟨1, 207, none⟩)])) w := by kernel_rfl
theorem rl_mKind (h : Value) (w : World) : (Go.method 134 192 (.agg #[h]) "Kind").run Tryz.prog w = .ok (254, h) w := by kernel_rfl
theorem rl_mElem (h : Value) (w : World) : (Go.method 134 192 (.agg #[h]) "Elem").run Tryz.prog w = .ok (265, .agg #[h]) w := by kernel_rfl
theorem rl_mImp (h : Value) (w : World) : (Go.method 134 192 (.agg #[h]) "Implements").run Tryz.prog w = .ok (266, .agg #[h]) w := by kernel_rfl
theorem rl_mAss (h : Value) (w : World) : (Go.method 134 192 (.agg #[h]) "AssignableTo").run Tryz.prog w = .ok (263, .agg #[h]) w := by kernel_rfl
theorem rl_kindPP (w:World):((ReflectliteType.abiMethod fun t=>(fun a:Nat=>Value.int IntKind.u8 (a:Int)) <$> Rtype.kind t) #[.pointer (some ⟨1,207,none⟩)]).run Tryz.prog w=.ok (.int .u8 22) w:=by kernel_rfl
theorem rl_kindP (w:World):((ReflectliteType.abiMethod fun t=>(fun a:Nat=>Value.int IntKind.u8 (a:Int)) <$> Rtype.kind t) #[.pointer (some ⟨1,114,none⟩)]).run Tryz.prog w=.ok (.int .u8 22) w:=by kernel_rfl
theorem rl_elemPP (w:World):(ReflectliteType.method ReflectliteType.elem #[.agg #[.pointer (some ⟨1,207,none⟩)]]).run Tryz.prog w=.ok (.iface 192 (.agg #[.pointer (some ⟨1,114,none⟩)])) w:=by kernel_rfl
theorem rl_implP (w : World) : (ReflectliteType.relation "Implements" ReflectliteType.implements_ #[.agg #[.pointer (some ⟨1, 114, none⟩)], .iface 192 (.agg #[.pointer (some ⟨1, 46, none⟩)])]).run Tryz.prog w = .ok (.bool true) w := by kernel_rfl
theorem rl_typeOfP (v:Value) (w:World):(ReflectliteType.typeOf #[.iface 114 v]).run Tryz.prog w=.ok (.iface 192 (.agg #[.pointer (some ⟨1,114,none⟩)])) w:=by kernel_rfl
theorem rl_assP (w : World) : (ReflectliteType.relation "AssignableTo" ReflectliteType.assignableTo #[.agg #[.pointer (some ⟨1, 114, none⟩)], .iface 192 (.agg #[.pointer (some ⟨1, 114, none⟩)])]).run Tryz.prog w = .ok (.bool true) w := by kernel_rfl
theorem rl_partsPP (a:Addr) (w:World):(ReflectliteValue.parts (.agg #[.pointer (some ⟨1,207,none⟩),.pointer (some a),.int .u64 150])).run Tryz.prog w=.ok (some (207,a,150)) w:=by kernel_rfl
theorem rl_partsA (a:Addr) (w:World):(ReflectliteValue.parts (.agg #[.pointer (some ⟨1,114,none⟩),.pointer (some a),.int .u64 406])).run Tryz.prog w=.ok (some (114,a,406)) w:=by kernel_rfl
theorem rl_partsP (a:Addr) (w:World):(ReflectliteValue.parts (.agg #[.pointer (some ⟨1,114,none⟩),.pointer (some a),.int .u64 150])).run Tryz.prog w=.ok (some (114,a,150)) w:=by kernel_rfl
theorem rl_ofPP (w:World):(Rtype.elem? 207).run Tryz.prog w=.ok (some 114) w:=by kernel_rfl
theorem rl_mkP (p:Addr) (w:World):(ReflectliteValue.mk 114 p ReflectliteValue.flagAddr).run Tryz.prog w=.ok (.agg #[.pointer (some ⟨1,114,none⟩),.pointer (some p),.int .u64 406]) w:=by kernel_rfl
theorem rl_direct (w:World):(Rtype.directlyAssignable 114 114).run Tryz.prog w=.ok true w:=by kernel_rfl
theorem rl_method_one (z:Sem Value) (f:TypeId→Addr→Nat→Nat→Sem Value) (v:Value):ReflectliteValue.method z f #[v]=(ReflectliteValue.parts v >>= fun | none=>z | some (t,a,fl)=>f t a fl (fl % 32)):=rfl
theorem rl_isNil (a p : Addr) (W : World) (ha : W.cell? a = some (.pointer (some p))) :
    (ReflectliteValue.method (ReflectliteValue.valueError "reflectlite.Value.IsNil" 0) ReflectliteValue.isNil #[.agg #[.pointer (some ⟨1, 207, none⟩), .pointer (some a), .int .u64 150]]).run Tryz.prog W = .ok (.bool false) W := by
  rw [rl_method_one]
  simp [Sem.run_bind, rl_partsPP, Result.andThen, ReflectliteValue.isNil, loadVar, isAgg, underlying, Tryz.underlying207, ha]
theorem rl_elemV (a p : Addr) (W : World) (ha : W.cell? a = some (.pointer (some p))) :
    (ReflectliteValue.method (ReflectliteValue.valueError "reflectlite.Value.Elem" 0) ReflectliteValue.elem #[.agg #[.pointer (some ⟨1, 207, none⟩), .pointer (some a), .int .u64 150]]).run Tryz.prog W = .ok (.agg #[.pointer (some ⟨1, 114, none⟩), .pointer (some p), .int .u64 406]) W := by
  rw [rl_method_one]
  simp [Sem.run_bind, rl_partsPP, Result.andThen, ReflectliteValue.elem, loadVar, isAgg, underlying, Tryz.underlying207, ha, rl_ofPP, rl_mkP]
theorem rl_set (ta b e:Addr) (old:Value) (W:World) (hb:W.cell? b=some (.pointer (some e))) (ht:W.cell? ta=some old) (hf:W.frozen? ta=false) :
  (ReflectliteValue.set #[.agg #[.pointer (some ⟨1,114,none⟩),.pointer (some ta),.int .u64 406],.agg #[.pointer (some ⟨1,114,none⟩),.pointer (some b),.int .u64 150]]).run Tryz.prog W=.ok (.tuple #[]) (W.setCell ta (.pointer (some e))):=by
 have key:=fun (v x:Value)=>(show ReflectliteValue.set #[v,x]=(ReflectliteValue.parts v >>= fun p=>ReflectliteValue.parts x >>= fun q=>_) from rfl)
 rw [key]
 simp only [Sem.run_bind,rl_partsA,rl_partsP,Result.andThen]
 simp [Result.andThen,ReflectliteValue.flagAddr,loadVar,isAgg,underlying,Tryz.underlying114,hb,rl_direct,storeVar,Value.cells,storeCells,Addr.add]
 rw [run_store Tryz.prog W ta _ _ (by rfl)]
 simp [ht,hf]
def ErrT (w:World):Prop:=w.cell? ⟨0,0,none⟩=some (.iface 192 (.agg #[.pointer (some ⟨1,46,none⟩)]))
theorem ErrT.lt {w:World} (h:ErrT w):0<w.heap.size:=by
 rcases Nat.lt_or_ge 0 w.heap.size with h0 | h0
 ·exact h0
 ·simp [ErrT,World.cell?,Array.getElem?_eq_none h0] at h
theorem ErrT.kept {w w' : World} {S:Nat→Prop} (h:ErrT w) (k:Kept S w w') (hn:¬ S 0):ErrT w' := (k.cell (p:=⟨0,0,none⟩) h.lt hn).trans h
theorem ErrT.same {w w' : World} (h:ErrT w) (k:Same0 w w'):ErrT w' := h.kept k (fun f=>f)
set_option maxHeartbeats 4000000 in
theorem as_hit {w : World} {t : Nat} (e : Addr) (hg : ErrT w) (ht : w.heap[t]? = some (.cells #[.pointer none] 114 (0, 0))) :
    Calls Tryz.prog 103 #[.iface 114 (.pointer (some e)), .iface 207 (.pointer (some ⟨t, 0, none⟩))] w fun ev w' => ev = .returned (.bool true) ∧ w'.heap[t]? = some (.cells #[.pointer (some e)] 114 (0, 0)) ∧ Kept (fun k => k = t) w w' := by
  have x1 := @run_callFunc_extern Tryz.prog 149 _ (fun args => ReflectliteValue.unpack (args.getD 0 (.tuple #[]))) Tryz.func149 (by kernel_rfl) (by kernel_rfl) (by kernel_rfl) (by kernel_rfl)
  have x2 := @run_callFunc_extern Tryz.prog 150 _ (ReflectliteValue.methodAny (ReflectliteValue.valueError "reflectlite.Value.Type" 0) (fun t _ _ _ => ReflectliteType.toType t)) Tryz.func150 (by kernel_rfl) (by kernel_rfl) (by kernel_rfl) (by kernel_rfl)
  have x3 := @run_callFunc_extern Tryz.prog 151 _ (ReflectliteValue.method (ReflectliteValue.valueError "reflectlite.Value.IsNil" 0) ReflectliteValue.isNil) Tryz.func151 (by kernel_rfl) (by kernel_rfl) (by kernel_rfl) (by kernel_rfl)
  have x4 := @run_callFunc_extern Tryz.prog 254 _ (ReflectliteType.abiMethod fun t => do pure (.int .u8 (← Rtype.kind t))) Tryz.func254 (by kernel_rfl) (by kernel_rfl) (by kernel_rfl) (by kernel_rfl)
  have x5 := @run_callFunc_extern Tryz.prog 265 _ (ReflectliteType.method ReflectliteType.elem) Tryz.func265 (by kernel_rfl) (by kernel_rfl) (by kernel_rfl) (by kernel_rfl)
  have x6 := @run_callFunc_extern Tryz.prog 266 _ (ReflectliteType.relation "Implements" ReflectliteType.implements_) Tryz.func266 (by kernel_rfl) (by kernel_rfl) (by kernel_rfl) (by kernel_rfl)
  have x7 := @run_callFunc_extern Tryz.prog 56 _ ReflectliteType.typeOf Tryz.func56 (by kernel_rfl) (by kernel_rfl) (by kernel_rfl) (by kernel_rfl)
  have x8 := @run_callFunc_extern Tryz.prog 263 _ (ReflectliteType.relation "AssignableTo" ReflectliteType.assignableTo) Tryz.func263 (by kernel_rfl) (by kernel_rfl) (by kernel_rfl) (by kernel_rfl)
  have x9 := @run_callFunc_extern Tryz.prog 199 _ (ReflectliteValue.method (ReflectliteValue.valueError "reflectlite.Value.Elem" 0) ReflectliteValue.elem) Tryz.func199 (by kernel_rfl) (by kernel_rfl) (by kernel_rfl) (by kernel_rfl)
  have x10 := @run_callFunc_extern Tryz.prog 200 _ ReflectliteValue.set Tryz.func200 (by kernel_rfl) (by kernel_rfl) (by kernel_rfl) (by kernel_rfl)
  have y1 := rl_unpackPP
  have y2 := rl_unpackP
  have y3 := rl_typePP
  have y4 := rl_mKind
  have y5 := rl_mElem
  have y6 := rl_mImp
  have y7 := rl_mAss
  have y8 := rl_kindPP
  have y9 := rl_kindP
  have y10 := rl_elemPP
  have y11 := rl_implP
  have y12 := rl_typeOfP
  have y13 := rl_assP
  have hgl := hg.lt
  have htl : t < w.heap.size := lt_of_at ht
  have n1 := rl_isNil ⟨w.heap.size, 0, none⟩ ⟨t, 0, none⟩ ((w.alloc (.cells #[.pointer (some ⟨t, 0, none⟩)] 207)).alloc (.cells #[.pointer (some ⟨1, 207, none⟩), .pointer (some ⟨w.heap.size, 0, none⟩), .int .u64 150] 266)) (by simp)
  have hg2 : ((w.alloc (.cells #[.pointer (some ⟨t, 0, none⟩)] 207)).alloc (.cells #[.pointer (some ⟨1, 207, none⟩), .pointer (some ⟨w.heap.size, 0, none⟩), .int .u64 150] 266)).cell? ⟨0, 0, none⟩ = some (.iface 192 (.agg #[.pointer (some ⟨1, 46, none⟩)])) :=
    hg.same (Kept.alloc (Kept.alloc (Kept.refl _ _) _) _)
  have n2 := rl_elemV ⟨w.heap.size, 0, none⟩ ⟨t, 0, none⟩ (((w.alloc (.cells #[.pointer (some ⟨t, 0, none⟩)] 207)).alloc (.cells #[.pointer (some ⟨1, 207, none⟩), .pointer (some ⟨w.heap.size, 0, none⟩), .int .u64 150] 266)).alloc (.cells #[.pointer (some ⟨1, 207, none⟩), .pointer (some ⟨w.heap.size, 0, none⟩), .int .u64 150] 266)) (by rw [World.cell?_alloc_lt _ _ ⟨w.heap.size, 0, none⟩ (by simp; omega)]; simp)
  have kA : Same0 w ((((w.alloc (.cells #[.pointer (some ⟨t, 0, none⟩)] 207)).alloc (.cells #[.pointer (some ⟨1, 207, none⟩), .pointer (some ⟨w.heap.size, 0, none⟩), .int .u64 150] 266)).alloc (.cells #[.pointer (some ⟨1, 207, none⟩), .pointer (some ⟨w.heap.size, 0, none⟩), .int .u64 150] 266)).alloc (.cells #[.pointer (some e)] 114)) := Kept.alloc (Kept.alloc (Kept.alloc (Kept.alloc (Kept.refl _ _) _) _) _) _
  have n3 := rl_set ⟨t, 0, none⟩ ⟨w.heap.size + 1 + 1 + 1, 0, none⟩ e (.pointer none) _ (by rw [World.cell?_alloc_at _ _ _ _ (by simp)]; rfl) (by rw [cellAt (kA.at0 ht)]; rfl) (frozenAt (kA.at0 ht) 0)
  go_enter Tryz.func103, Tryz.ntmps103
  go_wp2
  refine wp_loop_rounds 1 ?_
  rw [rounds_succ]
  go_wp2
  go_ret
  exact ⟨rfl, setAt (kA.at0 ht) 0 _, Kept.setCell (S := fun k => k = t) (p := ⟨t, 0, none⟩) (Kept.mono kA (fun _ _ f => f.elim)) (fun _ => rfl) _⟩
end Go.Proofs.YtmjgnfkbnofjoaaGreatDoor
namespace Go.Proofs.YtmjgnfkbnofjoaaGreatDoor
open Go.RowKit
set_option linter.unusedVariables false
set_option maxRecDepth 100000
theorem sd_et : Tryz.prog.globalNamed "errors.errorType" = some 0 := by kernel_rfl
theorem sd_rt : (Tryz.prog.cutTypes.find? (·.1 == "internal/reflectlite.rtype")).map (·.2) = some 192 := by kernel_rfl
theorem sd_oneRow:((List.range Tryz.prog.types.size).filter fun t=>Tryz.prog.rowNamed t [101,114,114,111,114])=[46]:=by kernel_rfl
theorem errT_of_laid {W : World} (h : laidMetH Tryz.prog [("errors.errorType", Rows.laid_errors_errorType)] W) : ErrT W := by
  have h' : laidMet Tryz.prog [] W ∧ handlesMet Tryz.prog [("errors.errorType", Rows.laid_errors_errorType)] W := h
  obtain ⟨name, u, ty, e1, e2, e3, e4, e5⟩ := h'.2 _ (List.mem_singleton.2 rfl)
  have en : name = [101, 114, 114, 111, 114] := (Option.some.inj e1).symm
  subst en
  obtain rfl := Option.some.inj (sd_rt.symm.trans e2)
  have hm : ty ∈ (List.range Tryz.prog.types.size).filter fun t => Tryz.prog.rowNamed t [101, 114, 114, 111, 114] := List.mem_filter.2 ⟨List.mem_range.2 e3, e4⟩
  rw [sd_oneRow] at hm
  obtain rfl := List.mem_singleton.1 hm
  have hh : typeHandle Tryz.prog 46 = .pointer (some ⟨1, 46, none⟩) := by kernel_rfl
  rw [hh] at e5
  show W.cell? _ = _
  simpa using World.var?_cell sd_et e5 0
theorem door_met10 (os : Os) (args : Array Value) : laidMetH Tryz.prog [("errors.errorType", Rows.laid_errors_errorType)] ((World.doorLaid Tryz.prog 400 os).forCall (fun _ _ => 0) ⟨#[], args, []⟩).memory := by
  first
    | exact laidMetH_of_parts (laidMet_nil _ _) (by kernel_rfl)
    | exact laidMetH_of_parts3 (fuel := 8) (laidMet_of_run' 8 (by kernel_rfl) (by kernel_rfl)) (by kernel_rfl) (by kernel_rfl)
end Go.Proofs.YtmjgnfkbnofjoaaGreatDoor
namespace Go.Proofs.YtmjgnfkbnofjoaaGreatDoor
def smB (c:Int):Bool:=decide (97≤c) && decide (c≤122)
def dgB (c:Int):Bool:=decide (48≤c) && decide (c≤57)
def nmAt (i:Nat) (c:Int):Bool:=smB c || (decide (0<i) && dgB c)
def NameP (s:ByteArray):Prop:=1≤s.size∧s.size≤12∧∀ i (h:i<s.size),nmAt i (s[i].toNat:Int)=true
def nameB (s:ByteArray):Bool:=decide (1≤s.size∧s.size≤12∧∀ i (h:i<s.size),nmAt i (s[i].toNat:Int)=true)
theorem nameB_no {s:ByteArray} (h:¬ NameP s):nameB s=false:=decide_eq_false h
theorem nameB_yes {s:ByteArray} (h:NameP s):nameB s=true:=decide_eq_true h
end Go.Proofs.YtmjgnfkbnofjoaaGreatDoor
namespace Go.Proofs.YtmjgnfkbnofjoaaGreatDoor
open Go.RowKit
structure Sym where
 name:ByteArray
 ar:Int
 df:Bool
def findI:List Sym→ByteArray→Option Nat
 | [],_=>none
 | x :: r,s=>if x.name=s then some 0 else (findI r s).map (· + 1)
theorem findI_snoc (L:List Sym) (x:Sym) (s:ByteArray):findI (L ++ [x]) s=match findI L s with | some i=>some i | none=>if x.name=s then some L.length else none:=by
 induction L with
 | nil=>simp [findI]
 | cons y r ih=>
  simp only [List.cons_append,findI]
  by_cases h:y.name=s
  ·simp [h]
  ·simp only [h,if_false,ih]
   cases hf:findI r s with
   | some i=>simp
   | none=>by_cases hx:x.name=s <;> simp [hx]
def symCells (L:List Sym):List Value:=L.flatMap fun x=>[.string x.name,.int .i64 x.ar,.bool x.df]
theorem symCells_length (L:List Sym):(symCells L).length=L.length * 3:=by
 induction L with
 | nil=>rfl
 | cons x r ih=>simp [symCells] at ih ⊢;omega
theorem symCells_snoc (L:List Sym) (x:Sym):symCells (L ++ [x])=symCells L ++ [.string x.name,.int .i64 x.ar,.bool x.df]:=by simp [symCells]
theorem symCells_at {L:List Sym} {i:Nat} (h:i<L.length):(symCells L)[i * 3]? = some (.string L[i].name)∧(symCells L)[i * 3+1]? = some (.int .i64 L[i].ar)∧(symCells L)[i * 3+2]? = some (.bool L[i].df):=by
 induction L generalizing i with
 | nil=>simp at h
 | cons x r ih=>
  have e:symCells (x :: r)=.string x.name :: .int .i64 x.ar :: .bool x.df :: symCells r:=by simp [symCells]
  rw [e]
  cases i with
  | zero=>simp
  | succ j=>
   have:=ih (i:=j) (by simpa using h)
   rw [show (j+1) * 3=j * 3+1+1+1 by omega]
   simpa using this
def addErr (L:List Sym) (x:Sym):Int:=
 if nameB x.name=false then 10 else if x.ar<0∨6<x.ar then 11 else if (findI L x.name).isSome then 12 else if 64≤L.length then 13 else 0
theorem info_Symbol:(Tryz.prog.info? 60).map (fun i=>(i.zero,i.size,i.bytes))=some (some (.agg #[.string ByteArray.empty,.int .i64 0,.bool false]),3,32):=by kernel_rfl
theorem law_string:Maps.Keyed Tryz.prog 9:=Maps.string_keyed Tryz.underlying9
theorem zero_int (w:World):(zeroValue 3).run Tryz.prog w=.ok (.int .i64 0) w:=by kernel_rfl
def MapIs (w:World) (mr:Option Nat) (L:List Sym):Prop:=
 match mr with
 | none=>L=[]
 | some bm=>∃ n D,w.ownsMap (H:=Unit) Tryz.prog 9 (plainElem Tryz.prog 3) bm n D∧n≤L.length ∧
   ∀ s:ByteArray,Maps.has D (.string s.data.toList)=(findI L s).isSome∧∀ i,findI L s=some i→D.atKey (.string s.data.toList) (.lit (.int .i64 0))=.lit (.int .i64 (i:Int))
structure SigAt (w:World) (b:Nat) (L:List Sym) (sv:Value) (mr:Option Nat):Prop where
 blk:w.heap[b]? = some (.cells #[sv,.map mr] 111 (0,0))
 row:w.ownsRow 0 60 3 sv L.length (symCells L)
 map:MapIs w mr L
 apart:sv.ownBlock≠some b
 len:L.length≤64
 names:∀ x∈L,nameB x.name=true
def Foot (b:Nat) (sv:Value) (mr:Option Nat) (k:Nat):Prop:=k=b∨sv.ownBlock=some k∨mr=some k
theorem MapIs.kept {S:Nat→Prop} {w w' : World} {mr:Option Nat} {L:List Sym} (h:MapIs w mr L) (hk:Kept S w w') (hn:∀ k,mr=some k→¬ S k):MapIs w' mr L:=by
 cases mr with
 | none=>exact h
 | some bm=>
  obtain ⟨n,D,hm,r⟩:=h
  exact ⟨n,D,hk.map hm (hn bm rfl),r⟩
theorem SigAt.kept {S:Nat→Prop} {w w' : World} {b:Nat} {L:List Sym} {sv:Value} {mr:Option Nat} (h:SigAt w b L sv mr) (hk:Kept S w w') (hn:∀ k,Foot b sv mr k→¬ S k):SigAt w' b L sv mr:=
 ⟨hk.at h.blk (hn b (.inl rfl)),hk.row h.row (fun k e=>hn k (.inr (.inl e))),h.map.kept hk (fun k e=>hn k (.inr (.inr e))),h.apart,h.len,h.names⟩
theorem SigAt.sv {w:World} {b:Nat} {L:List Sym} {sv:Value} {mr:Option Nat} (h:SigAt w b L sv mr):∃ ao cap,sv=.slice ao L.length cap:=by
 rcases h.row.2 with ⟨rfl,h0⟩ | ⟨g,cap,cur,rfl,_⟩
 ·exact ⟨none,0,by rw [h0]⟩
 ·exact ⟨_,cap,rfl⟩
theorem sig_foot_lt {w:World} {b:Nat} {L:List Sym} {sv:Value} {mr:Option Nat} (h:SigAt w b L sv mr):∀ k,Foot b sv mr k→k<w.heap.size:=by
 intro k hk
 rcases hk with e | e | e
 ·subst e;exact lt_of_at h.blk
 ·exact (h.row.lt k e).2
 ·subst e
  obtain ⟨n,D,hm,_⟩:=h.map
  exact hm.lt
theorem key_str {s:ByteArray} (hs:s.size≤maxLen):keyOf Tryz.prog 9 (.string s)=some (.string s.data.toList):=Go.WideMaps.keyOf_string_mk Tryz.underlying9 hs
theorem MapIs.look {w:World} {mr:Option Nat} {L:List Sym} (h:MapIs w mr L) {s:ByteArray} (hs:s.size≤maxLen) :
  (Instr.lookup 109 (.map mr) (.string s) true).run Tryz.prog w=.ok (.tuple #[.int .i64 (((findI L s).getD 0:Nat):Int),.bool (findI L s).isSome]) w:=by
 cases mr with
 | none=>
  obtain rfl:L=[]:=h
  rw [Maps.look_nil true law_string Tryz.underlying109 (zero_int w) (key_str hs)]
  simp [findI]
 | some bm=>
  obtain ⟨n,D,hm,hn,hall⟩:=h
  obtain ⟨v,ps,hrun,hv⟩:=hm.look_ok law_string Tryz.underlying109 (zero_int w) (plainElem_int Tryz.underlying3 (by decide)) (key_str hs)
  obtain ⟨a,rfl,hz,_⟩:=plainElem_int_inv Tryz.underlying3 hv
  rw [hrun,(hall s).1]
  simp only [Prod.mk.injEq] at hz
  cases hf:findI L s with
  | none=>
   have hno:Maps.has D (.string s.data.toList)=false:=by rw [(hall s).1,hf];rfl
   rw [Maps.atKey_of_not_has hno] at hz
   have:=hz.1
   simp at this
   simp [← this]
  | some i=>
   rw [(hall s).2 i hf] at hz
   have:=hz.1
   simp at this
   simp [← this]
abbrev symV (x:Sym):Value:=.agg #[.string x.name,.int .i64 x.ar,.bool x.df]
end Go.Proofs.YtmjgnfkbnofjoaaGreatDoor
namespace Go.Proofs.YtmjgnfkbnofjoaaGreatDoor
def arN (L:List Sym) (n:Int):Nat:=if n<0 then 0 else match L[n.toNat]? with | some x=>x.ar.toNat | none=>0
def scan (L:List Sym):Nat→List Int→Option Nat
 | 0,_=>some 0
 | _+1,[]=>none
 | k+1,x :: r=>(scan L (k+arN L x) r).map (· + 1)
def need (L:List Sym):Nat→List Int→Option Nat
 | k,[]=>some k
 | 0,_ :: _=>none
 | k+1,x :: r=>need L (k+arN L x) r
theorem scan_zero (L:List Sym) (ts:List Int):scan L 0 ts=some 0:=by cases ts <;> rfl
theorem need_append (L:List Sym) (k:Nat) (a b:List Int):need L k (a++b)=(need L k a).bind (fun m=>need L m b):=by
 induction a generalizing k with
 | nil=>simp [need]
 | cons x r ih=>
  cases k with
  | zero=>simp [need]
  | succ k=>simp [need,ih]
theorem need_add {L:List Sym} {k m:Nat} {a:List Int} (h:need L k a=some m) (j:Nat):need L (k+j) a=some (m+j):=by
 induction a generalizing k with
 | nil=>simp [need] at h ⊢;omega
 | cons x r ih=>
  cases k with
  | zero=>simp [need] at h
  | succ k=>
   rw [show k+1+j=(k+j)+1 by omega]
   simp only [need] at h ⊢
   have:=ih h
   rw [show k+arN L x+j=k+j+arN L x by omega] at this
   exact this
theorem need_split {L:List Sym} {a b:Nat} {ts:List Int} (h:need L (a+b) ts=some 0):∃ n,scan L a ts=some n∧n≤ts.length∧need L b (ts.drop n)=some 0:=by
 induction ts generalizing a with
 | nil=>
  simp [need] at h
  obtain ⟨rfl,rfl⟩:=h
  exact ⟨0,rfl,by simp,by simp [need]⟩
 | cons x r ih=>
  cases a with
  | zero=>exact ⟨0,by simp [scan_zero],by simp,by simpa using h⟩
  | succ a=>
   rw [show a+1+b=(a+b)+1 by omega] at h
   simp only [need] at h
   rw [show a+b+arN L x=(a+arN L x)+b by omega] at h
   obtain ⟨n,h1,h2,h3⟩:=ih h
   exact ⟨n+1,by simp [scan,h1],by simpa using h2,by simpa using h3⟩
theorem scan_need {L:List Sym} {k n:Nat} {ts:List Int} (h:scan L k ts=some n):n≤ts.length∧need L k (ts.take n)=some 0:=by
 induction ts generalizing k n with
 | nil=>cases k <;> simp [scan] at h;subst h;simp [need]
 | cons x r ih=>
  cases k with
  | zero=>simp [scan] at h;subst h;simp [need]
  | succ k=>
   simp only [scan,Option.map_eq_some_iff] at h
   obtain ⟨m,hm,rfl⟩:=h
   obtain ⟨h1,h2⟩:=ih hm
   exact ⟨by simpa using h1,by simpa [need] using h2⟩
theorem need_scan {L:List Sym} {k:Nat} {a b:List Int} (h:need L k a=some 0):scan L k (a++b)=some a.length:=by
 induction a generalizing k with
 | nil=>simp [need] at h;subst h;simp [scan_zero]
 | cons x r ih=>
  cases k with
  | zero=>simp [need] at h
  | succ k=>
   simp only [need] at h
   simp [scan,ih h]
theorem scan_pos {L:List Sym} {k n:Nat} {ts:List Int} (h:scan L (k+1) ts=some n):0<n:=by
 cases ts with
 | nil=>simp [scan] at h
 | cons x r=>simp only [scan,Option.map_eq_some_iff] at h;obtain ⟨m,_,rfl⟩:=h;omega
theorem scan_add {L:List Sym} {a b m:Nat} {ts:List Int} (h:scan L (a+b) ts=some m):∃ n n', scan L a ts=some n∧scan L b (ts.drop n)=some n' ∧ m=n+n' := by
 obtain ⟨h1,h2⟩:=scan_need h
 obtain ⟨n,h3,h4,h5⟩:=need_split h2
 obtain ⟨h6,h7⟩:=scan_need h3
 have h4:n≤m:=by simp at h4;omega
 have e1:ts.take m=ts.take n++(ts.drop n).take (m-n):=by
  rw [List.take_drop,show n+(m-n)=m by omega]
  have:=(List.take_append_drop n (ts.take m)).symm
  rwa [List.take_take,Nat.min_eq_left h4] at this
 have h8:need L a (ts.take n)=some 0:=by rwa [List.take_take,Nat.min_eq_left h4] at h7
 refine ⟨n,m-n,?_,?_,by omega⟩
 ·have:=need_scan (b:=ts.drop n) h8
  rw [List.take_append_drop] at this
  rw [this];simp;omega
 ·have h9:need L b ((ts.drop n).take (m-n))=some 0:=by
   have:(ts.take m).drop n=(ts.drop n).take (m-n):=by rw [List.drop_take]
   rwa [this] at h5
  have:=need_scan (b:=(ts.drop n).drop (m-n)) h9
  rw [List.take_append_drop] at this
  rw [this];simp;omega
def endO (L:List Sym) (t:List Int) (p:Nat):Option Nat:=(scan L 1 (t.drop p)).map (p + ·)
def endN (L:List Sym) (t:List Int) (p:Nat):Nat:=(endO L t p).getD t.length
def IsT (L:List Sym) (t:List Int):Prop:=need L 1 t=some 0
theorem isT_need {L:List Sym} {t:List Int} (h:IsT L t) {p:Nat} (hp:p<t.length):∃ k,need L (k+1) (t.drop p)=some 0:=by
 have h' : need L 1 (t.take p++t.drop p)=some 0:=by rw [List.take_append_drop];exact h
 rw [need_append] at h'
 cases hn:need L 1 (t.take p) with
 | none=>simp [hn] at h'
 | some k=>
  simp only [hn,Option.bind_some] at h'
  cases k with
  | zero=>
   have:t.drop p≠[]:=by intro e;have:=congrArg List.length e;simp at this;omega
   cases hd:t.drop p with
   | nil=>exact absurd hd this
   | cons x r=>rw [hd] at h'; simp [need] at h'
  | succ k=>exact ⟨k,h'⟩
theorem isT_scan {L:List Sym} {t:List Int} (h:IsT L t) {p:Nat} (hp:p<t.length):∃ n,scan L 1 (t.drop p)=some n∧0<n∧p+n≤t.length:=by
 obtain ⟨k,hk⟩:=isT_need h hp
 rw [Nat.add_comm] at hk
 obtain ⟨n,h1,h2,_⟩:=need_split hk
 exact ⟨n,h1,scan_pos (k:=0) h1,by simp at h2;omega⟩
theorem endN_of {L:List Sym} {t:List Int} {p n:Nat} (h:scan L 1 (t.drop p)=some n):endN L t p=p+n:=by simp [endN,endO,h]
theorem endO_some {L:List Sym} {t:List Int} (h:IsT L t) {p:Nat} (hp:p<t.length):endO L t p=some (endN L t p):=by
 obtain ⟨n,h1,_,_⟩:=isT_scan h hp
 rw [endN_of h1,endO,h1];rfl
theorem endN_le {L:List Sym} {t:List Int} (h:IsT L t) {p:Nat} (hp:p<t.length):p<endN L t p∧endN L t p≤t.length:=by
 obtain ⟨n,h1,h2,h3⟩:=isT_scan h hp
 rw [endN_of h1];omega
theorem isT_pos {L:List Sym} {t:List Int} (h:IsT L t):0<t.length:=by
 cases t with
 | nil=>simp [IsT,need] at h
 | cons=>simp
theorem endN_zero {L:List Sym} {t:List Int} (h:IsT L t):endN L t 0=t.length:=by
 have:=need_scan (b:=[]) h
 rw [List.append_nil] at this
 rw [endN_of (n:=t.length) (by simpa using this)];omega
def starts (L:List Sym) (t:List Int):Nat→Nat→List Nat
 | 0,_=>[]
 | k+1,p=>p :: starts L t k (endN L t p)
theorem starts_length (L:List Sym) (t:List Int) (k p:Nat):(starts L t k p).length=k:=by
 induction k generalizing p with
 | zero=>rfl
 | succ k ih=>simp [starts,ih]
def past (L:List Sym) (t:List Int):Nat→Nat→Nat
 | 0,p=>p
 | k+1,p=>past L t k (endN L t p)
theorem past_succ (L:List Sym) (t:List Int) (k p:Nat):past L t (k+1) p=endN L t (past L t k p):=by
 induction k generalizing p with
 | zero=>rfl
 | succ k ih=>rw [past,ih,past]
theorem starts_at {L:List Sym} {t:List Int} {k p i:Nat} (h:i<k):(starts L t k p)[i]? = some (past L t i p):=by
 induction k generalizing p i with
 | zero=>omega
 | succ k ih=>
  cases i with
  | zero=>simp [starts,past]
  | succ i=>simpa [starts,past] using ih (p:=endN L t p) (by omega)
theorem starts_snoc (L:List Sym) (t:List Int) (k p:Nat):starts L t (k+1) p=starts L t k p ++ [past L t k p]:=by
 induction k generalizing p with
 | zero=>simp [starts,past]
 | succ k ih=>
  have:=ih (endN L t p)
  conv=>lhs;rw [starts]
  rw [this];simp [starts,past]
def Forest (L:List Sym) (t:List Int) (k p q:Nat):Prop:=∃ n,scan L k (t.drop p)=some n∧q=p+n∧q≤t.length
theorem Forest.zero {L:List Sym} {t:List Int} {p q:Nat} (h:Forest L t 0 p q):q=p:=by
 obtain ⟨n,h1,h2,_⟩:=h
 simp [scan_zero] at h1;omega
theorem Forest.le {L:List Sym} {t:List Int} {k p q:Nat} (h:Forest L t k p q):p≤q∧q≤t.length:=by
 obtain ⟨n,_,h2,h3⟩:=h;omega
theorem Forest.succ {L:List Sym} {t:List Int} {k p q:Nat} (h:Forest L t (k+1) p q):Forest L t 1 p (endN L t p)∧p<endN L t p∧Forest L t k (endN L t p) q:=by
 obtain ⟨n,h1,h2,h3⟩:=h
 rw [Nat.add_comm] at h1
 obtain ⟨a,b,h4,h5,h6⟩:=scan_add h1
 have e:=endN_of h4
 have ha:=scan_pos (k:=0) h4
 refine ⟨⟨a,h4,e,by omega⟩,by omega,b,?_,by omega,h3⟩
 rw [e,← List.drop_drop];exact h5
theorem Forest.pos {L:List Sym} {t:List Int} {k p q:Nat} (h:Forest L t (k+1) p q):p<q:=by
 have:=h.succ.2.1;have:=h.succ.2.2.le;omega
theorem Forest.one {L:List Sym} {t:List Int} (h:IsT L t) {p:Nat} (hp:p<t.length):Forest L t 1 p (endN L t p):=by
 obtain ⟨n,h1,h2,h3⟩:=isT_scan h hp
 exact ⟨n,h1,endN_of h1,by rw [endN_of h1];exact h3⟩
theorem Forest.kids {L:List Sym} {t:List Int} {p q:Nat} (h:Forest L t 1 p q):∃ hp:p<t.length,Forest L t (arN L t[p]) (p+1) q:=by
 obtain ⟨n,h1,h2,h3⟩:=h
 have hn:=scan_pos (k:=0) h1
 have hp:p<t.length:=by omega
 refine ⟨hp,?_⟩
 rw [List.drop_eq_getElem_cons hp] at h1
 simp only [scan,Nat.zero_add,Option.map_eq_some_iff] at h1
 obtain ⟨m,hm,rfl⟩:=h1
 exact ⟨m,hm,by omega,h3⟩
theorem Forest.past {L:List Sym} {t:List Int} {k p q:Nat} (h:Forest L t k p q):past L t k p=q:=by
 induction k generalizing p with
 | zero=>exact h.zero.symm
 | succ k ih=>rw [Proofs.YtmjgnfkbnofjoaaGreatDoor.past];exact ih h.succ.2.2
theorem Forest.drop {L:List Sym} {t:List Int} {k i p q:Nat} (h:Forest L t k p q) (hi:i≤k):Forest L t (k-i) (Proofs.YtmjgnfkbnofjoaaGreatDoor.past L t i p) q:=by
 induction i generalizing k p with
 | zero=>exact h
 | succ i ih=>
  cases k with
  | zero=>omega
  | succ k=>
   have:=ih h.succ.2.2 (by omega)
   simpa [Proofs.YtmjgnfkbnofjoaaGreatDoor.past] using this
theorem past_mono {L:List Sym} {t:List Int} {k p q:Nat} (h:Forest L t k p q) {i j:Nat} (hij:i<j) (hj:j≤k):endN L t (past L t i p)≤past L t j p:=by
 induction j with
 | zero=>omega
 | succ j ih=>
  rw [past_succ]
  by_cases e:i=j
  ·subst e;exact Nat.le_refl _
  ·have h1:=ih (by omega) (by omega)
   have h2:=h.drop (i:=j) (by omega)
   obtain ⟨m,hm⟩:∃ m,k-j=m+1:=⟨k-j-1,by omega⟩
   rw [hm] at h2
   have:=h2.succ.2.1
   omega
def argsN (L:List Sym) (t:List Int) (p:Nat):List Nat:=starts L t (arN L (t.getD p 0)) (p+1)
theorem argsN_eq {L:List Sym} {t:List Int} {p:Nat} (hp:p<t.length):argsN L t p=starts L t (arN L t[p]) (p+1):=by
 simp [argsN,hp]
def bump:List (Nat × Nat)→List (Nat × Nat)
 | []=>[]
 | (j,a) :: st=>if j+1<a then (j+1,a) :: st else bump st
def pass (st:List (Nat × Nat)) (a:Nat):List (Nat × Nat):=if 0<a then (0,a) :: st else bump st
def run (L:List Sym) (st:List (Nat × Nat)) (ts:List Int):List (Nat × Nat):=ts.foldl (fun s x=>pass s (arN L x)) st
theorem run_append (L:List Sym) (st:List (Nat × Nat)) (a b:List Int):run L st (a++b)=run L (run L st a) b:=by simp [run]
def way (L:List Sym) (t:List Int) (p:Nat):List (Nat × Nat):=run L [] (t.take p)
theorem way_succ {L:List Sym} {t:List Int} {p:Nat} (hp:p<t.length):way L t (p+1)=pass (way L t p) (arN L t[p]):=by
 unfold way
 rw [List.take_add_one,run_append,List.getElem?_eq_getElem hp]
 rfl
theorem way_forest {L:List Sym} {t:List Int} (n:Nat):∀ (p q:Nat),q-p≤n →
  (Forest L t 1 p q→way L t q=bump (way L t p)) ∧
  (∀ (k j a:Nat) (st:List (Nat × Nat)),Forest L t (k+1) p q→way L t p=(j,a) :: st→j+(k+1)=a→way L t q=bump st):=by
 induction n with
 | zero=>
  intro p q h
  refine ⟨fun hf=>?_,fun k j a st hf _ _=>?_⟩
  ·have:=hf.pos;omega
  ·have:=hf.pos;omega
 | succ n ih=>
  intro p q h
  have one:Forest L t 1 p q→way L t q=bump (way L t p):=by
   intro hf
   obtain ⟨hp,hk⟩:=hf.kids
   have hw:=way_succ (L:=L) hp
   cases ha:arN L t[p] with
   | zero=>
    rw [ha] at hk hw
    rw [hk.zero,hw];rfl
   | succ a=>
    rw [ha] at hk hw
    exact (ih (p+1) q (by omega)).2 a 0 (a+1) (way L t p) hk (by rw [hw];rfl) (by omega)
  refine ⟨one,?_⟩
  intro k j a st hf hw hj
  cases k with
  | zero=>
   rw [one hf,hw,bump,if_neg (by omega)]
  | succ k=>
   obtain ⟨h1,h2,h3⟩:=hf.succ
   have h4:=h3.pos
   have e1:=(ih p (endN L t p) (by omega)).1 h1
   rw [hw,bump,if_pos (by omega)] at e1
   exact (ih (endN L t p) q (by omega)).2 k (j+1) a st h3 e1 (by omega)
theorem way_one {L:List Sym} {t:List Int} {p q:Nat} (h:Forest L t 1 p q):way L t q=bump (way L t p):=(way_forest (q-p) p q (Nat.le_refl _)).1 h
theorem way_past {L:List Sym} {t:List Int} {k p q:Nat} (h:Forest L t k p q) {j a:Nat} {st:List (Nat × Nat)} (hw:way L t p=(j,a) :: st) {i:Nat} (hi:i<k) (ha:j+k≤a) :
  way L t (past L t i p)=(j+i,a) :: st:=by
 induction i generalizing k j p with
 | zero=>exact hw
 | succ i ih=>
  cases k with
  | zero=>omega
  | succ k=>
   obtain ⟨h1,h2,h3⟩:=h.succ
   have e1:=way_one h1
   rw [hw,bump,if_pos (by omega)] at e1
   have:=ih h3 e1 (by omega) (by omega)
   rw [show j+1+i=j+(i+1) by omega] at this
   exact this
theorem forest_in {L:List Sym} {t:List Int} {k p q at' : Nat} (h:Forest L t k p q) (h1:p≤at') (h2:at' < q):∃ i,i<k∧past L t i p≤at' ∧ at' < endN L t (past L t i p):=by
 induction k generalizing p with
 | zero=>have:=h.zero;omega
 | succ k ih=>
  obtain ⟨f1,f2,f3⟩:=h.succ
  by_cases e:at' < endN L t p
  ·exact ⟨0,by omega,h1,e⟩
  ·obtain ⟨i,hi,g1,g2⟩:=ih f3 (by omega)
   exact ⟨i+1,by omega,g1,g2⟩
theorem kid_in {L:List Sym} {t:List Int} (h:IsT L t) {p a:Nat} (hp:p<t.length) (h1:p<a) (h2:a<endN L t p) :
  ∃ i,i<arN L t[p]∧past L t i (p+1)≤a∧a<endN L t (past L t i (p+1))∧past L t i (p+1)<t.length∧p<past L t i (p+1)∧way L t (past L t i (p+1))=(i,arN L t[p]) :: way L t p ∧
   ∀ j,j<arN L t[p]→(past L t j (p+1)≤a∧a<endN L t (past L t j (p+1)) ↔ j=i):=by
 obtain ⟨hp', hk⟩:=(Forest.one h hp).kids
 obtain ⟨i,hi,g1,g2⟩:=forest_in hk (by omega) h2
 have hle:=(endN_le h hp).2
 have hw:way L t (p+1)=(0,arN L t[p]) :: way L t p:=by rw [way_succ hp,pass,if_pos (by omega)]
 have hwi:=way_past hk hw hi (by omega)
 rw [Nat.zero_add] at hwi
 have hpp:p<past L t i (p+1):=by
  cases i with
  | zero=>simp [past]
  | succ i=>
   have:=past_mono hk (i:=0) (j:=i+1) (by omega) (by omega)
   have h5:=hk.drop (i:=0) (by omega)
   have:=(Forest.one h (p:=p+1) (by omega)).pos
   simp [past] at *;omega
 refine ⟨i,hi,g1,g2,by omega,hpp,hwi,fun j hj=>⟨fun ⟨x1,x2⟩=>?_,fun e=>by subst e;exact ⟨g1,g2⟩⟩⟩
 rcases Nat.lt_trichotomy j i with hji | hji | hji
 ·have:=past_mono hk hji (by omega);omega
 ·exact hji
 ·have:=past_mono hk hji (by omega);omega
def leads (L:List Sym) (t:List Int):Nat→List Int→Option Nat
 | p,[]=>some p
 | p,n :: r=>if n<0 then none else match (argsN L t p)[n.toNat]? with | some q=>leads L t q r | none=>none
theorem leads_append {L:List Sym} {t:List Int} {p q:Nat} {a b:List Int} (h:leads L t p a=some q):leads L t p (a++b)=leads L t q b:=by
 induction a generalizing p with
 | nil=>simp [leads] at h;subst h;rfl
 | cons n r ih=>
  simp only [leads,List.cons_append] at h ⊢
  by_cases hn:n<0
  ·simp [hn] at h
  ·simp only [hn,if_false] at h ⊢
   cases ha:(argsN L t p)[n.toNat]? with
   | none=>simp [ha] at h
   | some q' => simp only [ha] at h ⊢;exact ih h
def putN (L:List Sym) (t:List Int) (p:Nat) (u:List Int):List Int:=t.take p++u++t.drop (endN L t p)
def subN (L:List Sym) (t:List Int) (p:Nat):List Int:=(t.take (endN L t p)).drop p
theorem sub_need {L:List Sym} {t:List Int} (h:IsT L t) {p:Nat} (hp:p<t.length):IsT L (subN L t p):=by
 obtain ⟨n,h1,h2,h3⟩:=isT_scan h hp
 have:=(scan_need h1).2
 unfold IsT subN
 rw [endN_of h1,List.drop_take]
 simpa using this
theorem put_sub {L:List Sym} {t:List Int} (h:IsT L t) {p:Nat} (hp:p<t.length):putN L t p (subN L t p)=t:=by
 have he:=endN_le h hp
 unfold putN subN
 have e1:t.take p=(t.take (endN L t p)).take p:=by rw [List.take_take,Nat.min_eq_left (by omega)]
 rw [e1,List.take_append_drop,List.take_append_drop]
theorem put_need {L:List Sym} {t:List Int} (h:IsT L t) {p:Nat} (hp:p<t.length) {u:List Int} (hu:IsT L u):IsT L (putN L t p u):=by
 have h0:need L 1 (putN L t p (subN L t p))=some 0:=by rw [put_sub h hp];exact h
 unfold putN at h0 ⊢
 unfold IsT
 rw [List.append_assoc,need_append] at h0 ⊢
 cases hk:need L 1 (t.take p) with
 | none=>simp [hk] at h0
 | some k=>
  simp only [hk,Option.bind_some] at h0 ⊢
  rw [need_append] at h0 ⊢
  cases k with
  | zero=>
   have hs:=sub_need h hp
   have:=isT_pos hs
   cases hd:subN L t p with
   | nil=>simp [hd] at this
   | cons x r=>rw [hd] at h0;simp [need] at h0
  | succ k=>
   have e1:=need_add (sub_need h hp) k
   have e2:=need_add hu k
   rw [Nat.add_comm 1 k] at e1 e2
   rw [e1] at h0
   rw [e2]
   exact h0
def badE (L:List Sym):List Int→Int
 | []=>0
 | x :: r=>if (L.length:Int)≤x then 21 else if x < -99 then 22 else badE L r
def checkE (L:List Sym) (t:List Int):Int:=if 2000<t.length then 20 else if badE L t≠0 then badE L t else if need L 1 t=some 0 then 0 else 23
def placeE (L:List Sym) (t:List Int) (at' : Int):Int:=if checkE L t≠0 then checkE L t else if at' < 0∨(t.length:Int)≤at' then 24 else 0
theorem badE_zero {L:List Sym} {t:List Int}:badE L t=0 ↔ ∀ x∈t,x<(L.length:Int) ∧ -99≤x:=by
 induction t with
 | nil=>simp [badE]
 | cons x r ih=>
  simp only [badE,List.mem_cons,forall_eq_or_imp]
  by_cases h1:(L.length:Int)≤x
  ·simp only [h1,if_true];constructor
   ·intro h;omega
   ·intro h;omega
  ·by_cases h2:x < -99
   ·simp only [h1,h2,if_true,if_false];constructor
    ·intro h;omega
    ·intro h;omega
   ·simp only [h1,h2,if_false,ih];constructor
    ·intro h;exact ⟨by omega,h⟩
    ·intro h;exact h.2
theorem badE_append (L:List Sym) (a b:List Int) (h:badE L a=0):badE L (a++b)=badE L b:=by
 induction a with
 | nil=>rfl
 | cons x r ih=>
  simp only [badE] at h
  by_cases h1:(L.length:Int)≤x
  ·simp [h1] at h
  ·by_cases h2:x < -99
   ·simp [h1,h2] at h
   ·simp only [h1,h2,if_false] at h
    simp only [List.cons_append,badE,h1,h2,if_false]
    exact ih h
theorem checkE_zero {L:List Sym} {t:List Int}:checkE L t=0 ↔ t.length≤2000∧badE L t=0∧IsT L t:=by
 unfold checkE IsT
 by_cases h1:2000<t.length
 ·simp [h1];intro;omega
 ·by_cases h2:badE L t=0
  ·by_cases h3:need L 1 t=some 0
   ·simp [h1,h2,h3];omega
   ·simp [h1,h2,h3]
  ·simp [h1,h2]
def isV (x:Int):Bool:=decide (-99≤x∧x ≤ -1)
end Go.Proofs.YtmjgnfkbnofjoaaGreatDoor
