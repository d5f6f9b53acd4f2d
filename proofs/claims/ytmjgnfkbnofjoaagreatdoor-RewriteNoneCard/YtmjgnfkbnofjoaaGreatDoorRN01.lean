import Derived.WalkKit
import Derived.WalkSpells
import Derived.Deep.AppendLies
import Derived.BigQuiet
import Derived.Handy
import Derived.Stop.Asserts
import Derived.Test.YtmjgnfkbnofjoaaGreatDoorRows
import Derived.LaidMore
import Derived.Stop.Joined
import Derived.RangeFuncNested
namespace Go.Proofs.YtmjgnfkbnofjoaaGreatDoor
open Go.Proofs.Tryz
set_option maxRecDepth 100000
set_option linter.unusedVariables false
set_option maxHeartbeats 4000000
section
open Go.RowKit
structure Zc (S:Nat->Prop) (w w' : World):Prop where
 os:w'.os=w.os
 tape:w'.tape=w.tape
 output:w'.output=w.output
 size:w.heap.size<=w'.heap.size
 block:∀ k,k<w.heap.size->¬ S k->w'.heap[k]? = w.heap[k]?
theorem Zc.refl (S:Nat->Prop) (w:World):Zc S w w:=⟨rfl,rfl,rfl,Nat.le_refl _,λ _ _ _=>rfl⟩
theorem Zc.trans {S S' : Nat->Prop} {a b c:World} (h:Zc S a b) (k:Zc S' b c) (hs:∀ i,i<a.heap.size->S' i->S i):Zc S a c:=
 ⟨k.os.trans h.os,k.tape.trans h.tape,k.output.trans h.output,Nat.le_trans h.size k.size,λ i hi hn=>(k.block i (Nat.lt_of_lt_of_le hi h.size) (λ x=>hn (hs i hi x))).trans (h.block i hi hn)⟩
theorem Zc.mono {S S' : Nat->Prop} {w w' : World} (h:Zc S w w') (hs:∀ i,i<w.heap.size->S i->S' i):Zc S' w w' :=
 ⟨h.os,h.tape,h.output,h.size,λ k hk hn=>h.block k hk (λ x=>hn (hs k hk x))⟩
theorem Zc.drew {S:Nat->Prop} {a w:World} (h:Zc S a w):Zc S a w.drew:=⟨h.os,h.tape,h.output,h.size,h.block⟩
theorem Zc.drewN {S:Nat->Prop} {a w:World} (h:Zc S a w) (n:Nat):Zc S a (w.drewN n):=⟨h.os,h.tape,h.output,h.size,h.block⟩
theorem Zc.alloc {S:Nat->Prop} {a w:World} (h:Zc S a w) (o:Obj):Zc S a (w.alloc o):=
 h.trans (S' := λ _=>False) ⟨rfl,rfl,rfl,by simp,λ k hk _=>Below.heap_alloc _ _ _ hk⟩ (λ _ _ x=>x.elim)
theorem Zal9 {S:Nat→Prop} {w:World} {o:Obj}:Zc S w (w.alloc o):=(Zc.refl _ _).alloc _
theorem Zc.setCell {S:Nat->Prop} {a w:World} (h:Zc S a w) {p:Addr} (hp:p.block<a.heap.size->S p.block) (u:Value):Zc S a (w.setCell p u):=
 h.trans (S' := λ k=>k=p.block) ⟨rfl,rfl,rfl,by simp [World.setCell],λ k _ hn=>Below.heap_setCell _ _ _ _ hn⟩ (λ i hi e=>by subst e;exact hp hi)
theorem Zc.grown {S:Nat->Prop} {a w w' : World} {row:Option Nat} (h:Zc S a w) (hg:w.grownBy w' row) (hr:∀ k,row=some k->k<a.heap.size->S k):Zc S a w' :=
 h.trans (S' := λ k=>row=some k) ⟨hg.os,hg.tape,hg.output,hg.size,λ k hk hn=>hg.block k hk (λ e=>hn e.symm)⟩ (λ i hi e=>hr i e hi)
theorem Zc.below {S:Nat->Prop} {w w' : World} {B:Nat} (h:Zc S w w') (hB:B<=w.heap.size) (hs:∀ k,k<B->¬ S k):Below B w w' :=
 ⟨h.os,h.tape,h.output,h.size,λ k hk=>h.block k (by omega) (hs k hk)⟩
theorem Zc.cell {S:Nat->Prop} {w w' : World} (h:Zc S w w') {p:Addr} (hp:p.block<w.heap.size) (hn:¬ S p.block):w'.cell? p=w.cell? p:=World.cell?_of_block (h.block p.block hp hn)
theorem Zc.at {S:Nat->Prop} {w w' : World} (h:Zc S w w') {b:Nat} {o:Obj} (hb:w.heap[b]? = some o) (hn:¬ S b):w'.heap[b]? = some o:=
 (h.block b (Array.getElem?_eq_some_iff.1 hb).1 hn).trans hb
theorem Zi {w:World} {b:Nat} {o:Obj} (hb:w.heap[b]? = some o):b<w.heap.size:=(Array.getElem?_eq_some_iff.1 hb).1
theorem Zc.row {S:Nat->Prop} {w w' : World} (h:Zc S w w') {base:Nat} {e:TypeId} {size:Nat} {v:Value} {n:Nat} {xs:List Value} (hr:w.ownsRow base e size v n xs) (hn:∀ k,v.ownBlock=some k->¬ S k):w'.ownsRow base e size v n xs:=by
 refine ⟨hr.1,?_⟩
 rcases hr.2 with h0 | ⟨g,cap,cur,rfl,hb,hg,r⟩
 ·exact .inl h0
 ·exact .inr ⟨g,cap,cur,rfl,hb,h.at hg (hn g rfl),r⟩
theorem Zc.map {S:Nat->Prop} {w w' : World} (h:Zc S w w') {H:Type} {P:Program} {k:TypeId} {R:Value->Option (DataW H × List MemPlace)} {b n:Nat} {D:DataW H} (hm:w.ownsMap P k R b n D) (hn:¬ S b):w'.ownsMap P k R b n D:=by
 obtain ⟨es,clock,hb,r⟩:=hm;exact ⟨es,clock,h.at hb hn,r⟩
theorem Zb {w:World} {b:Nat} {cs:Array Value} {t:TypeId} {fr:Nat × Nat} (h:w.heap[b]? = some (.cells cs t fr)) (o:Nat):w.cell? ⟨b,o,none⟩=cs[o]? := by
 simp [World.cell?,h]
theorem Zg {w:World} {b:Nat} {cs:Array Value} {t:TypeId} (h:w.heap[b]? = some (.cells cs t (0,0))) (o:Nat):w.frozen? ⟨b,o,none⟩=false:=by
 simp [World.frozen?,h]
theorem Zt {w:World} {b:Nat} {cs:Array Value} {t:TypeId} {fr:Nat × Nat} (h:w.heap[b]? = some (.cells cs t fr)) (o:Nat) (v:Value):(w.setCell ⟨b,o,none⟩ v).heap[b]? = some (.cells (cs.setIfInBounds o v) t fr):=by
 simp [World.setCell,Array.getElem?_modify,h]
theorem Zf {w:World} {base:Nat} {e:TypeId} {size:Nat} {v:Value} {n:Nat} {xs:List Value} (h:w.ownsRow base e size v n xs):∃ ao cap,v=.slice ao n cap:=by
 rcases h.2 with ⟨rfl,h0⟩ | ⟨g,cap,cur,rfl,_⟩
 ·exact ⟨none,0,by rw [h0]⟩
 ·exact ⟨_,cap,rfl⟩
theorem Yy {w:World} {base base' : Nat} {e:TypeId} {size:Nat} {v:Value} {n:Nat} {xs:List Value} (h:w.ownsRow base e size v n xs) (hb:base' <= base):w.ownsRow base' e size v n xs:=by
 refine ⟨h.1,h.2.imp id ?_⟩;rintro ⟨g,cap,cur,hv,hg,r⟩;exact ⟨g,cap,cur,hv,by omega,r⟩
theorem Z5 {a b:Bool} (h:a=b):Ending.returned (.bool a)=.returned (.bool b):=by rw [h]
theorem Z3 {k:IntKind} {a b:Int} (h:a=b):Ending.returned (.int k a)=.returned (.int k b):=by rw [h]
theorem str_ne {a b:ByteArray} (h:¬ a=b):(a.toList == b.toList)=false  := by
 rw [beq_eq_false_iff_ne];intro e;rw [ByteArray.toList_eq,ByteArray.toList_eq] at e;exact h (Go.WideShapes.bytes_inj e)
abbrev Za:World->World->Prop:=Zc (λ _=>False)
theorem Za.trans' {a b c:World} (h:Za a b) (k:Za b c):Za a c:=Zc.trans h k (λ _ _ f=>f)
theorem Za.of_below {w w' : World} (h:Below w.heap.size w w'):Za w w' := ⟨h.os,h.tape,h.output,h.size,λ k hk _=>h.block k hk⟩
theorem Za.below {w w' : World} (h:Za w w'):Below w.heap.size w w' := Zc.below h (Nat.le_refl _) (λ _ _ f=>f)
theorem Za.at0 {w w' : World} (h:Za w w') {b:Nat} {o:Obj} (hb:w.heap[b]? = some o):w'.heap[b]? = some o:=Zc.at h hb (λ f=>f)
end
section
open Go.RowKit Go.Extern.Stop Go.Stop Go.Extern
theorem Zbq (v:Value) (w:World):(Extern.ReflectliteType.typeOf #[.iface 70 v]).run prog w=.ok (.iface 192 (.agg #[.pointer (some ⟨1,70,none⟩)])) w:=by kernel_rfl
theorem Vv (w : World) : (callFunc 264 #[.agg #[.pointer (some ⟨1, 70, none⟩)]]).run prog w = .ok (.value (.bool true)) w :=
  (@run_callFunc_extern prog 264 _ (Extern.ReflectliteType.method λ t => do Extern.Rtype.noPackHeld "Comparable" t; pure (.bool (<- typeInfo t).comparable)) func264 (by kernel_rfl) (by kernel_rfl) (by kernel_rfl) (by kernel_rfl) _ w).trans (by kernel_rfl)
theorem Vg (v : Value) (w : World) : (Go.method 496 192 v "Comparable").run prog w = .ok (264, v) w := by kernel_rfl
theorem Zrf (v:Value) (xT:TypeId) (w:World):(Instr.typeAssert (.iface 70 v) xT 194 true).run prog w=.ok (.tuple #[.nilIface,.bool false]) w:=run_typeAssert_lacksB underlying194 (by kernel_rfl) (by kernel_rfl) v xT w
theorem Zeg (v:Value) (xT:TypeId) (w:World):(Instr.typeAssert (.iface 70 v) xT 197 true).run prog w=.ok (.tuple #[.nilIface,.bool false]) w:=run_typeAssert_lacksB underlying197 (by kernel_rfl) (by kernel_rfl) v xT w
theorem Zcp (v:Value) (xT:TypeId) (w:World):(Instr.typeAssert (.iface 70 v) xT 199 true).run prog w=.ok (.tuple #[.nilIface,.bool false]) w:=run_typeAssert_lacksB underlying199 (by kernel_rfl) (by kernel_rfl) v xT w
theorem Zhm (v:Value) (xT:TypeId) (w:World):(Instr.typeAssert (.iface 114 v) xT 194 true).run prog w=.ok (.tuple #[.iface 114 v,.bool true]) w:=run_typeAssert_hasB underlying194 (by kernel_rfl) v xT w
theorem Zae (v:Value) (xT:TypeId) (w:World):(Instr.typeAssert (.iface 114 v) xT 197 true).run prog w=.ok (.tuple #[.iface 114 v,.bool true]) w:=run_typeAssert_hasB underlying197 (by kernel_rfl) v xT w
theorem Zt6 (v : Value) (w : World) : (Go.method 496 114 v "Is").run prog w = .ok (259, v) w := by kernel_rfl
theorem Zb7 (v : Value) (w : World) : (Go.method 496 114 v "Unwrap").run prog w = .ok (260, v) w := by kernel_rfl
theorem Zru (a b:Int) (w:World):(binOp .eql 46 (.iface 70 (.int .i64 a)) (.iface 70 (.int .i64 b))).run prog w=.ok (.bool (a == b)) w:=by kernel_rfl
theorem Zsi (v u:Value) (w:World):(binOp .eql 46 (.iface 114 v) (.iface 70 u)).run prog w=.ok (.bool false) w:=by kernel_rfl
theorem is_asE (v:Value) (xT:TypeId) (w:World):(Instr.typeAssert (.iface 70 v) xT 70 true).run prog w=.ok (.tuple #[v,.bool true]) w:=by kernel_rfl
theorem Zzc (v:Value) (w:World):(binOp .eql 46 .nilIface (.iface 70 v)).run prog w=.ok (.bool false) w:=by kernel_rfl
def Zn (w:World):List (Int × Int)->Value->Prop
 | [],v=>v=.nilIface
 | (c,p) :: r,v=>(p = -1∧r=[]∧v=.iface 70 (.int .i64 c))∨(p ≠ -1∧∃ b u,v=.iface 114 (.pointer (some ⟨b,0,none⟩))∧w.heap[b]? = some (.cells #[.int .i64 c,.int .i64 p,u] 116 (0,0))∧Zn w r u)
theorem Zn.same {w w' : World} (hk:Za w w'):∀ {ws:List (Int × Int)} {v:Value},Zn w ws v->Zn w' ws v
 | [],_,h=>h
 | (c,p) :: r,v,h=>by
  rcases h with h | ⟨h0,b,u,h1,h2,h3⟩
  ·exact .inl h
  ·exact .inr ⟨h0,b,u,h1,hk.at0 h2,Zn.same hk h3⟩
theorem Zg9 {w:World} {b:Nat} {c p:Int} {u:Value} (h:w.heap[b]? = some (.cells #[.int .i64 c,.int .i64 p,u] 116 (0,0))) (d:Int) :
  Calls prog 259 #[.pointer (some ⟨b,0,none⟩),.iface 70 (.int .i64 d)] w λ e w' => e=.returned (.bool (d == c))∧w' = w:=by
 have aE:=is_asE;have b0:=Zb h 0;simp only [List.getElem?_toArray,List.getElem?_cons_zero] at b0;clear h
 by_cases hd:d=c
 ·have e1:(d == c)=true:=by simpa using hd
  go_enter func259,ntmps259
  go_wp2;go_ret;exact ⟨by rw [e1];rfl,rfl⟩
 ·have e1:(d == c)=false:=by simpa using hd
  go_enter func259,ntmps259
  go_wp2;go_ret;exact ⟨by rw [e1];rfl,rfl⟩
theorem Kj {w:World} {b:Nat} {c p:Int} {u:Value} (h:w.heap[b]? = some (.cells #[.int .i64 c,.int .i64 p,u] 116 (0,0))) :
  Calls prog 260 #[.pointer (some ⟨b,0,none⟩)] w λ e w' => e=.returned u∧w' = w:=by
 have b0:=Zb h 2;simp only [List.getElem?_toArray,List.getElem?_cons_zero,List.getElem?_cons_succ] at b0;clear h
 go_enter func260,ntmps260
 go_wp2;go_ret;exact ⟨rfl,rfl⟩
theorem is_one (a d:Int) (w:World):Calls prog 27 #[.iface 70 (.int .i64 a),.iface 70 (.int .i64 d)] w λ e w' => e=.returned (.bool (a == d))∧w' = w:=by
 have h8:=@run_callFunc_extern prog 56 _ Extern.ReflectliteType.typeOf func56 (by kernel_rfl) (by kernel_rfl) (by kernel_rfl) (by kernel_rfl);have tT:=Zbq;have cT:=Vv;have mR:=Vg;have nE:=Zrf;have uE:=Zeg;have vE:=Zcp
 by_cases hd:a=d
 ·subst hd
  have e1:(a == a)=true:=by simp
  have eq:=Zru a a;rw [e1] at eq ⊢;clear e1
  go_enter func27,ntmps27
  go_wp2;refine wp_loop_rounds 1 ?_;rw [rounds_succ];go_wp2;go_ret;exact ⟨rfl,rfl⟩
 ·have e1:(a == d)=false:=by simpa using hd
  have eq:=Zru a d;rw [e1] at eq ⊢;clear hd e1
  go_enter func27,ntmps27
  go_wp2;refine wp_loop_rounds 1 ?_;rw [rounds_succ];go_wp2;go_ret;exact ⟨rfl,rfl⟩
theorem Zve {w:World} {b:Nat} {c p:Int} (h:w.heap[b]? = some (.cells #[.int .i64 c,.int .i64 p,.nilIface] 116 (0,0))) (d:Int) :
  Calls prog 27 #[.iface 114 (.pointer (some ⟨b,0,none⟩)),.iface 70 (.int .i64 d)] w λ e w' => e=.returned (.bool (d == c))∧w' = w:=by
 have h8:=@run_callFunc_extern prog 56 _ Extern.ReflectliteType.typeOf func56 (by kernel_rfl) (by kernel_rfl) (by kernel_rfl) (by kernel_rfl);have tT:=Zbq;have cT:=Vv;have mR:=Vg;have nE:=Zhm;have uE:=Zae;have m1:=Zt6;have m2:=Zb7;have eq:=Zsi;have c1:=Zg9 h d;have c2:=Kj h;clear h;generalize (d == c)=r at *;cases r
 ·go_enter func27,ntmps27
  go_wp2;refine wp_loop_rounds 1 ?_;rw [rounds_succ]
  go_wp2_with (first | (go_at_call 259;refine c1.mono ?_;rintro e w' ⟨rfl,rfl⟩) | (go_at_call 260;refine c2.mono ?_;rintro e w' ⟨rfl,rfl⟩))
  go_ret;exact ⟨rfl,rfl⟩
 ·go_enter func27,ntmps27
  go_wp2;refine wp_loop_rounds 1 ?_;rw [rounds_succ]
  go_wp2_with (first | (go_at_call 259;refine c1.mono ?_;rintro e w' ⟨rfl,rfl⟩) | (go_at_call 260;refine c2.mono ?_;rintro e w' ⟨rfl,rfl⟩))
  go_ret;exact ⟨rfl,rfl⟩
theorem Zj0 {w:World} {b:Nat} {c p:Int} {k:Int} (h:w.heap[b]? = some (.cells #[.int .i64 c,.int .i64 p,.iface 70 (.int .i64 k)] 116 (0,0))) (d:Int) :
  Calls prog 27 #[.iface 114 (.pointer (some ⟨b,0,none⟩)),.iface 70 (.int .i64 d)] w λ e w' => e=.returned (.bool ((d == c) || k == d))∧w' = w:=by
 have h8:=@run_callFunc_extern prog 56 _ Extern.ReflectliteType.typeOf func56 (by kernel_rfl) (by kernel_rfl) (by kernel_rfl) (by kernel_rfl);have tT:=Zbq;have cT:=Vv;have mR:=Vg;have nE:=Zhm;have uE:=Zae;have m1:=Zt6;have m2:=Zb7;have eq:=Zsi;have c1:=Zg9 h d;have c2:=Kj h;have eqk:=Zru k d w;have nE' := Zrf;have uE' := Zeg;have vE' := Zcp;clear h;generalize (d == c)=r at *;cases r
 ·simp only [Bool.false_or]
  generalize (k == d)=q at *;cases q
  ·go_enter func27,ntmps27
   go_wp2;refine wp_loop_rounds 2 ?_;rw [rounds_succ]
   go_wp2_with (first | (go_at_call 259;refine c1.mono ?_;rintro e w' ⟨rfl,rfl⟩) | (go_at_call 260;refine c2.mono ?_;rintro e w' ⟨rfl,rfl⟩))
   rw [rounds_succ];go_wp2;go_ret;exact ⟨rfl,rfl⟩
  ·go_enter func27,ntmps27
   go_wp2;refine wp_loop_rounds 2 ?_;rw [rounds_succ]
   go_wp2_with (first | (go_at_call 259;refine c1.mono ?_;rintro e w' ⟨rfl,rfl⟩) | (go_at_call 260;refine c2.mono ?_;rintro e w' ⟨rfl,rfl⟩))
   rw [rounds_succ];go_wp2;go_ret;exact ⟨rfl,rfl⟩
 ·simp only [Bool.true_or]
  clear c2
  go_enter func27,ntmps27
  go_wp2;refine wp_loop_rounds 2 ?_;rw [rounds_succ]
  go_wp2_with (go_at_call 259;refine c1.mono ?_;rintro e w' ⟨rfl,rfl⟩)
  go_ret;exact ⟨rfl,rfl⟩
theorem Zjf {w:World} {b:Nat} {c p:Int} {b' : Nat} {c' p' : Int} (h:w.heap[b]? = some (.cells #[.int .i64 c,.int .i64 p,.iface 114 (.pointer (some ⟨b', 0,none⟩))] 116 (0,0))) (h' : w.heap[b']? = some (.cells #[.int .i64 c', .int .i64 p', .nilIface] 116 (0,0))) (d:Int) :
  Calls prog 27 #[.iface 114 (.pointer (some ⟨b,0,none⟩)),.iface 70 (.int .i64 d)] w λ e w' => e=.returned (.bool ((d == c) || d == c'))∧w' = w:=by
 have h8:=@run_callFunc_extern prog 56 _ Extern.ReflectliteType.typeOf func56 (by kernel_rfl) (by kernel_rfl) (by kernel_rfl) (by kernel_rfl);have tT:=Zbq;have cT:=Vv;have mR:=Vg;have nE:=Zhm;have uE:=Zae;have m1:=Zt6;have m2:=Zb7;have eq:=Zsi;have c1:=Zg9 h d;have c2:=Kj h;have c3:=Zg9 h' d;have c4:=Kj h';clear h';clear h;generalize (d == c)=r at *;cases r
 ·simp only [Bool.false_or]
  generalize (d == c')=q at *;cases q
  ·go_enter func27,ntmps27
   go_wp2;refine wp_loop_rounds 2 ?_;rw [rounds_succ]
   go_wp2_with (first | (go_at_call 259;refine c1.mono ?_;rintro e w' ⟨rfl,rfl⟩) | (go_at_call 260;refine c2.mono ?_;rintro e w' ⟨rfl,rfl⟩))
   rw [rounds_succ]
   go_wp2_with (first | (go_at_call 259;refine c3.mono ?_;rintro e w' ⟨rfl,rfl⟩) | (go_at_call 260;refine c4.mono ?_;rintro e w' ⟨rfl,rfl⟩))
   go_ret;exact ⟨rfl,rfl⟩
  ·go_enter func27,ntmps27
   go_wp2;refine wp_loop_rounds 2 ?_;rw [rounds_succ]
   go_wp2_with (first | (go_at_call 259;refine c1.mono ?_;rintro e w' ⟨rfl,rfl⟩) | (go_at_call 260;refine c2.mono ?_;rintro e w' ⟨rfl,rfl⟩))
   rw [rounds_succ]
   go_wp2_with (first | (go_at_call 259;refine c3.mono ?_;rintro e w' ⟨rfl,rfl⟩) | (go_at_call 260;refine c4.mono ?_;rintro e w' ⟨rfl,rfl⟩))
   go_ret;exact ⟨rfl,rfl⟩
 ·simp only [Bool.true_or]
  clear c2
  go_enter func27,ntmps27
  go_wp2;refine wp_loop_rounds 2 ?_;rw [rounds_succ]
  go_wp2_with (go_at_call 259;refine c1.mono ?_;rintro e w' ⟨rfl,rfl⟩)
  go_ret;exact ⟨rfl,rfl⟩
theorem Zzb (d:Int) (w:World):Calls prog 27 #[.nilIface,.iface 70 (.int .i64 d)] w λ e w' => e=.returned (.bool false)∧w' = w:=by
 have hn:=Zzc
 go_enter func27,ntmps27
 go_wp2;go_ret;exact ⟨rfl,rfl⟩
def Ko (ws:List (Int × Int)) (d:Int):Bool:=decide (d∈ws.map Prod.fst)
theorem X5 {w:World} {ws:List (Int × Int)} {v:Value} (h:Zn w ws v) (h2:ws.length<=2) (d:Int) :
  Calls prog 27 #[v,.iface 70 (.int .i64 d)] w λ e w' => e=.returned (.bool (Ko ws d))∧w' = w:=by
 match ws,h2 with
 | [],_=>
  obtain rfl:v=.nilIface:=h;exact Zzb d w
 | [(c,p)],_=>
  rcases h with ⟨rfl,_,rfl⟩ | ⟨_,b,u,rfl,h1,hu⟩
  ·refine (is_one c d w).mono ?_
   rintro e w' ⟨rfl,rfl⟩;refine ⟨Z5 ?_,rfl⟩
   by_cases e:d=c
   ·simp [Ko,e]
   ·simp [Ko,e];omega
  ·obtain rfl:u=.nilIface:=hu
   refine (Zve h1 d).mono ?_;rintro e w' ⟨rfl,rfl⟩;refine ⟨Z5 ?_,rfl⟩
   by_cases e:d=c <;> simp [Ko,e]
 | [(c,p),(c', p')],_=>
  rcases h with ⟨_,e,_⟩ | ⟨_,b,u,rfl,h1,hu⟩
  ·cases e
  ·rcases hu with ⟨rfl,_,rfl⟩ | ⟨_,b', u', rfl,h1', hu'⟩
   ·refine (Zj0 h1 d).mono ?_
    rintro e w' ⟨rfl,rfl⟩;refine ⟨Z5 ?_,rfl⟩
    by_cases e:d=c
    ·simp [Ko,e]
    ·by_cases e' : d=c'
     ·simp [Ko,e']
     ·have:(c' == d)=false:=by simp;omega
      simp [Ko,e,e', this]
   ·obtain rfl:u' = .nilIface:=hu'
    refine (Zjf h1 h1' d).mono ?_;rintro e w' ⟨rfl,rfl⟩;refine ⟨Z5 ?_,rfl⟩
    by_cases e:d=c
    ·simp [Ko,e]
    ·by_cases e' : d=c' <;> simp [Ko,e,e']
theorem Zkk (t:Addr) (w:World):(ReflectliteValue.unpack (.iface 207 (.pointer (some t)))).run prog w=.ok (.agg #[.pointer (some ⟨1,207,none⟩),.pointer (some ⟨w.heap.size,0,none⟩),.int .u64 150]) (w.alloc (.cells #[.pointer (some t)] 207)):=by kernel_rfl
theorem Zp1 (e:Addr) (w:World):(ReflectliteValue.unpack (.iface 114 (.pointer (some e)))).run prog w=.ok (.agg #[.pointer (some ⟨1,114,none⟩),.pointer (some ⟨w.heap.size,0,none⟩),.int .u64 150]) (w.alloc (.cells #[.pointer (some e)] 114)):=by kernel_rfl
theorem Zub (a : Addr) (w : World) : (ReflectliteValue.methodAny (ReflectliteValue.valueError "reflectlite.Value.Type" 0) (λ t _ _ _ => ReflectliteType.toType t) #[.agg #[.pointer (some ⟨1, 207, none⟩), .pointer (some a), .int .u64 150]]).run prog w = .ok (.iface 192 (.agg #[.pointer (some ⟨1, 207, none⟩)])) w := by kernel_rfl
theorem Zwf (h : Value) (w : World) : (Go.method 134 192 (.agg #[h]) "Kind").run prog w = .ok (254, h) w := by kernel_rfl
theorem Zur (h : Value) (w : World) : (Go.method 134 192 (.agg #[h]) "Elem").run prog w = .ok (265, .agg #[h]) w := by kernel_rfl
theorem Zy7 (h : Value) (w : World) : (Go.method 134 192 (.agg #[h]) "Implements").run prog w = .ok (266, .agg #[h]) w := by kernel_rfl
theorem Zye (h : Value) (w : World) : (Go.method 134 192 (.agg #[h]) "AssignableTo").run prog w = .ok (263, .agg #[h]) w := by kernel_rfl
theorem Zt3 (w:World):((ReflectliteType.abiMethod λ t=>(λ a:Nat=>Value.int IntKind.u8 (a:Int)) <$> Rtype.kind t) #[.pointer (some ⟨1,207,none⟩)]).run prog w=.ok (.int .u8 22) w:=by kernel_rfl
theorem Zvo (w:World):((ReflectliteType.abiMethod λ t=>(λ a:Nat=>Value.int IntKind.u8 (a:Int)) <$> Rtype.kind t) #[.pointer (some ⟨1,114,none⟩)]).run prog w=.ok (.int .u8 22) w:=by kernel_rfl
theorem Zth (w:World):(ReflectliteType.method ReflectliteType.elem #[.agg #[.pointer (some ⟨1,207,none⟩)]]).run prog w=.ok (.iface 192 (.agg #[.pointer (some ⟨1,114,none⟩)])) w:=by kernel_rfl
theorem Zwu (w : World) : (ReflectliteType.relation "Implements" ReflectliteType.implements_ #[.agg #[.pointer (some ⟨1, 114, none⟩)], .iface 192 (.agg #[.pointer (some ⟨1, 46, none⟩)])]).run prog w = .ok (.bool true) w := by kernel_rfl
theorem Zp7 (v:Value) (w:World):(ReflectliteType.typeOf #[.iface 114 v]).run prog w=.ok (.iface 192 (.agg #[.pointer (some ⟨1,114,none⟩)])) w:=by kernel_rfl
theorem Zyc (w : World) : (ReflectliteType.relation "AssignableTo" ReflectliteType.assignableTo #[.agg #[.pointer (some ⟨1, 114, none⟩)], .iface 192 (.agg #[.pointer (some ⟨1, 114, none⟩)])]).run prog w = .ok (.bool true) w := by kernel_rfl
theorem Zfp (a:Addr) (w:World):(ReflectliteValue.parts (.agg #[.pointer (some ⟨1,207,none⟩),.pointer (some a),.int .u64 150])).run prog w=.ok (some (207,a,150)) w:=by kernel_rfl
theorem Zsr (a:Addr) (w:World):(ReflectliteValue.parts (.agg #[.pointer (some ⟨1,114,none⟩),.pointer (some a),.int .u64 406])).run prog w=.ok (some (114,a,406)) w:=by kernel_rfl
theorem Zra (a:Addr) (w:World):(ReflectliteValue.parts (.agg #[.pointer (some ⟨1,114,none⟩),.pointer (some a),.int .u64 150])).run prog w=.ok (some (114,a,150)) w:=by kernel_rfl
theorem Zyq (w:World):(Rtype.elem? 207).run prog w=.ok (some 114) w:=by kernel_rfl
theorem rl_mkP (p:Addr) (w:World):(ReflectliteValue.mk 114 p ReflectliteValue.flagAddr).run prog w=.ok (.agg #[.pointer (some ⟨1,114,none⟩),.pointer (some p),.int .u64 406]) w:=by kernel_rfl
theorem Zrd (w:World):(Rtype.directlyAssignable 114 114).run prog w=.ok true w:=by kernel_rfl
theorem Zbo (z:Sem Value) (f:TypeId->Addr->Nat->Nat->Sem Value) (v:Value):ReflectliteValue.method z f #[v]=(ReflectliteValue.parts v >>= λ | none=>z | some (t,a,fl)=>f t a fl (fl % 32)):=rfl
theorem rl_isNil (a p : Addr) (W : World) (ha : W.cell? a = some (.pointer (some p))) :
    (ReflectliteValue.method (ReflectliteValue.valueError "reflectlite.Value.IsNil" 0) ReflectliteValue.isNil #[.agg #[.pointer (some ⟨1, 207, none⟩), .pointer (some a), .int .u64 150]]).run prog W = .ok (.bool false) W := by
  rw [Zbo];simp [Sem.run_bind, Zfp, Result.andThen, ReflectliteValue.isNil, loadVar, isAgg, underlying, underlying207, ha]
theorem rl_elemV (a p : Addr) (W : World) (ha : W.cell? a = some (.pointer (some p))) :
    (ReflectliteValue.method (ReflectliteValue.valueError "reflectlite.Value.Elem" 0) ReflectliteValue.elem #[.agg #[.pointer (some ⟨1, 207, none⟩), .pointer (some a), .int .u64 150]]).run prog W = .ok (.agg #[.pointer (some ⟨1, 114, none⟩), .pointer (some p), .int .u64 406]) W := by
  rw [Zbo];simp [Sem.run_bind, Zfp, Result.andThen, ReflectliteValue.elem, loadVar, isAgg, underlying, underlying207, ha, Zyq, rl_mkP]
theorem rl_set (ta b e:Addr) (old:Value) (W:World) (hb:W.cell? b=some (.pointer (some e))) (ht:W.cell? ta=some old) (hf:W.frozen? ta=false) :
  (ReflectliteValue.set #[.agg #[.pointer (some ⟨1,114,none⟩),.pointer (some ta),.int .u64 406],.agg #[.pointer (some ⟨1,114,none⟩),.pointer (some b),.int .u64 150]]).run prog W=.ok (.tuple #[]) (W.setCell ta (.pointer (some e))):=by
 have key:=λ (v x:Value)=>(show ReflectliteValue.set #[v,x]=(ReflectliteValue.parts v >>= λ p=>ReflectliteValue.parts x >>= λ q=>_) from rfl);rw [key];simp only [Sem.run_bind,Zsr,Zra,Result.andThen];simp [Result.andThen,ReflectliteValue.flagAddr,loadVar,isAgg,underlying,underlying114,hb,Zrd,storeVar,Value.cells,storeCells,Addr.add];rw [run_store prog W ta _ _ (by rfl)];simp [ht,hf]
def ErrT (w:World):Prop:=w.cell? ⟨0,0,none⟩=some (.iface 192 (.agg #[.pointer (some ⟨1,46,none⟩)]))
theorem ErrT.lt {w:World} (h:ErrT w):0<w.heap.size:=by
 rcases Nat.lt_or_ge 0 w.heap.size with h0 | h0
 ·exact h0
 ·simp [ErrT,World.cell?,Array.getElem?_eq_none h0] at h
theorem ErrT.kept {w w' : World} {S:Nat->Prop} (h:ErrT w) (k:Zc S w w') (hn:¬ S 0):ErrT w' := (k.cell (p:=⟨0,0,none⟩) h.lt hn).trans h
theorem ErrT.same {w w' : World} (h:ErrT w) (k:Za w w'):ErrT w' := h.kept k (λ f=>f)
theorem as_hit {w : World} {t : Nat} (e : Addr) (hg : ErrT w) (ht : w.heap[t]? = some (.cells #[.pointer none] 114 (0, 0))) :
    Calls prog 103 #[.iface 114 (.pointer (some e)), .iface 207 (.pointer (some ⟨t, 0, none⟩))] w λ ev w' => ev = .returned (.bool true) ∧ w'.heap[t]? = some (.cells #[.pointer (some e)] 114 (0, 0)) ∧ Zc (λ k => k = t) w w' := by
  have x1 := @run_callFunc_extern prog 149 _ (λ args => ReflectliteValue.unpack (args.getD 0 (.tuple #[]))) func149 (by kernel_rfl) (by kernel_rfl) (by kernel_rfl) (by kernel_rfl);have x2 := @run_callFunc_extern prog 150 _ (ReflectliteValue.methodAny (ReflectliteValue.valueError "reflectlite.Value.Type" 0) (λ t _ _ _ => ReflectliteType.toType t)) func150 (by kernel_rfl) (by kernel_rfl) (by kernel_rfl) (by kernel_rfl);have x3 := @run_callFunc_extern prog 151 _ (ReflectliteValue.method (ReflectliteValue.valueError "reflectlite.Value.IsNil" 0) ReflectliteValue.isNil) func151 (by kernel_rfl) (by kernel_rfl) (by kernel_rfl) (by kernel_rfl);have x4 := @run_callFunc_extern prog 254 _ (ReflectliteType.abiMethod λ t => do pure (.int .u8 (<- Rtype.kind t))) func254 (by kernel_rfl) (by kernel_rfl) (by kernel_rfl) (by kernel_rfl);have x5 := @run_callFunc_extern prog 265 _ (ReflectliteType.method ReflectliteType.elem) func265 (by kernel_rfl) (by kernel_rfl) (by kernel_rfl) (by kernel_rfl);have x6 := @run_callFunc_extern prog 266 _ (ReflectliteType.relation "Implements" ReflectliteType.implements_) func266 (by kernel_rfl) (by kernel_rfl) (by kernel_rfl) (by kernel_rfl);have x7 := @run_callFunc_extern prog 56 _ ReflectliteType.typeOf func56 (by kernel_rfl) (by kernel_rfl) (by kernel_rfl) (by kernel_rfl);have x8 := @run_callFunc_extern prog 263 _ (ReflectliteType.relation "AssignableTo" ReflectliteType.assignableTo) func263 (by kernel_rfl) (by kernel_rfl) (by kernel_rfl) (by kernel_rfl);have x9 := @run_callFunc_extern prog 199 _ (ReflectliteValue.method (ReflectliteValue.valueError "reflectlite.Value.Elem" 0) ReflectliteValue.elem) func199 (by kernel_rfl) (by kernel_rfl) (by kernel_rfl) (by kernel_rfl);have x10 := @run_callFunc_extern prog 200 _ ReflectliteValue.set func200 (by kernel_rfl) (by kernel_rfl) (by kernel_rfl) (by kernel_rfl);have y1 := Zkk
  have y2 := Zp1;have y3 := Zub;have y4 := Zwf;have y5 := Zur;have y6 := Zy7;have y7 := Zye;have y8 := Zt3;have y9 := Zvo;have y10 := Zth;have y11 := Zwu;have y12 := Zp7;have y13 := Zyc;have hgl := hg.lt;have htl : t < w.heap.size := Zi ht;have n1 := rl_isNil ⟨w.heap.size, 0, none⟩ ⟨t, 0, none⟩ ((w.alloc (.cells #[.pointer (some ⟨t, 0, none⟩)] 207)).alloc (.cells #[.pointer (some ⟨1, 207, none⟩), .pointer (some ⟨w.heap.size, 0, none⟩), .int .u64 150] 266)) (by simp)
  have hg2 : ((w.alloc (.cells #[.pointer (some ⟨t, 0, none⟩)] 207)).alloc (.cells #[.pointer (some ⟨1, 207, none⟩), .pointer (some ⟨w.heap.size, 0, none⟩), .int .u64 150] 266)).cell? ⟨0, 0, none⟩ = some (.iface 192 (.agg #[.pointer (some ⟨1, 46, none⟩)])) :=
    hg.same (Zc.alloc (Zc.alloc (Zc.refl _ _) _) _)
  have n2 := rl_elemV ⟨w.heap.size, 0, none⟩ ⟨t, 0, none⟩ (((w.alloc (.cells #[.pointer (some ⟨t, 0, none⟩)] 207)).alloc (.cells #[.pointer (some ⟨1, 207, none⟩), .pointer (some ⟨w.heap.size, 0, none⟩), .int .u64 150] 266)).alloc (.cells #[.pointer (some ⟨1, 207, none⟩), .pointer (some ⟨w.heap.size, 0, none⟩), .int .u64 150] 266)) (by rw [World.cell?_alloc_lt _ _ ⟨w.heap.size, 0, none⟩ (by simp; omega)]; simp);have kA : Za w ((((w.alloc (.cells #[.pointer (some ⟨t, 0, none⟩)] 207)).alloc (.cells #[.pointer (some ⟨1, 207, none⟩), .pointer (some ⟨w.heap.size, 0, none⟩), .int .u64 150] 266)).alloc (.cells #[.pointer (some ⟨1, 207, none⟩), .pointer (some ⟨w.heap.size, 0, none⟩), .int .u64 150] 266)).alloc (.cells #[.pointer (some e)] 114)) := Zc.alloc (Zc.alloc (Zc.alloc (Zc.alloc (Zc.refl _ _) _) _) _) _;have n3 := rl_set ⟨t, 0, none⟩ ⟨w.heap.size + 1 + 1 + 1, 0, none⟩ e (.pointer none) _ (by rw [World.cell?_alloc_at _ _ _ _ (by simp)]; rfl) (by rw [Zb (kA.at0 ht)]; rfl) (Zg (kA.at0 ht) 0)
  go_enter func103, ntmps103
  go_wp2;refine wp_loop_rounds 1 ?_;rw [rounds_succ];go_wp2;go_ret;exact ⟨rfl, Zt (kA.at0 ht) 0 _, Zc.setCell (S := λ k => k = t) (p := ⟨t, 0, none⟩) (Zc.mono kA (λ _ _ f => f.elim)) (λ _ => rfl) _⟩
end
section
open Go.RowKit
theorem sd_et : prog.globalNamed "errors.errorType" = some 0 := by kernel_rfl
theorem sd_rt : (prog.cutTypes.find? (·.1 == "internal/reflectlite.rtype")).map (·.2) = some 192 := by kernel_rfl
theorem Zqn:((List.range prog.types.size).filter λ t=>prog.rowNamed t [101,114,114,111,114])=[46]:=by kernel_rfl
theorem Zij {W : World} (h : laidMetH prog [("errors.errorType", Rows.laid_errors_errorType)] W) : ErrT W := by
  have h' : laidMet prog [] W ∧ handlesMet prog [("errors.errorType", Rows.laid_errors_errorType)] W := h;obtain ⟨name, u, ty, e1, e2, e3, e4, e5⟩ := h'.2 _ (List.mem_singleton.2 rfl);have en : name = [101, 114, 114, 111, 114] := (Option.some.inj e1).symm;subst en;obtain rfl := Option.some.inj (sd_rt.symm.trans e2);have hm : ty ∈ (List.range prog.types.size).filter λ t => prog.rowNamed t [101, 114, 114, 111, 114] := List.mem_filter.2 ⟨List.mem_range.2 e3, e4⟩;rw [Zqn] at hm;obtain rfl := List.mem_singleton.1 hm;have hh : typeHandle prog 46 = .pointer (some ⟨1, 46, none⟩) := by kernel_rfl
  rw [hh] at e5;show W.cell? _ = _
  simpa using World.var?_cell sd_et e5 0
theorem Zpq (os : Os) (args : Array Value) : laidMetH prog [("errors.errorType", Rows.laid_errors_errorType)] ((World.doorLaid prog 400 os).forCall (λ _ _ => 0) ⟨#[], args, []⟩).memory := by
  first
    | exact laidMetH_of_parts (laidMet_nil _ _) (by kernel_rfl)
    | exact laidMetH_of_parts3 (fuel := 8) (laidMet_of_run' 8 (by kernel_rfl) (by kernel_rfl)) (by kernel_rfl) (by kernel_rfl)
theorem Yg {W:World} {l k:Nat} {o o' x:Obj} (hl:W.heap[l]? = some o) (hx:o.isCells=false) (hk:W.heap[k]? = some x) (hc:x.isCells=true):(W.putObj l o').heap[k]? = some x:=by
 have:k≠l:=λ e=>by subst e;rw [hl] at hk;cases hk;rw [hx] at hc;cases hc
 exact (World.putObj_heap_other this).trans hk
structure Rnd (D B:Nat) (W W' : World):Prop where
 recs:KeepsFrom D W W'
 below:Below B W W'
theorem Rnd.trans {D B:Nat} {X Y Z:World} (h:Rnd D B X Y) (k:Rnd D B Y Z):Rnd D B X Z:=⟨h.recs.trans k.recs,h.below.trans k.below⟩
theorem Rnd.same {D B:Nat} {W W' : World} (h:Za W W') (hB:B<=W.heap.size):Rnd D B W W' :=
 ⟨⟨h.size,λ k o _ hk _=>h.at0 hk⟩,h.below.mono hB⟩
theorem Zbv {B l:Nat} {W:World} {o o' : Obj} (hl:W.heap[l]? = some o) (hB:B<=l):Below B W (W.putObj l o'):=
 ⟨rfl,rfl,rfl,by simp,λ k hk=>World.putObj_heap_other (by omega)⟩
section
variable {F : Fence} {n : Nat} {P : Program}
def Hands (F:Fence) (n:Nat) (P:Program) (gf:Nat) (lb:Array Value) (B N:Nat) (Lk:Nat->Array Value->World->Prop) (w:World):Prop:=
 ∀ (l:Nat) (J:Nat->World->Prop) (W:World),Za w W->(∀ k X Y,J k X->Za X Y->J k Y) ->
  (∀ k vs X,k<N->J k X->Lk k vs X->YieldAt F (n-1) P l vs X λ e Y=>e=.returned (.bool true)∧J (k+1) Y∧Below B X Y)->J 0 W ->
  CallsIn F n P gf (#[.func (.yield l) #[] #[]]++lb) W λ e Y=>(∃ v,e=.returned v)∧J N Y
theorem Zn5 {g:Operand} {ps:Array Tmp} {assign body:Code} {Q:Exit->Act->World->Prop} {a:Act} {w:World}
  (hro:F.round=none) (h1:1<=n) {gf:Nat} {lb:Array Value} (hg:a.eval g=.func (.func gf) #[] lb) (hFg:F.fn gf) (eg:∀ args w,(callFunc gf args).run P w=.ok (.enter gf args) w)
  {N:Nat} {Lk:Nat->Array Value->World->Prop} {B:Nat} (hB:B<=w.heap.size) (hh:Hands F (n-1) P gf lb B N Lk w) (hsz:∀ k vs W,Lk k vs W->vs.size=ps.size)
  (J:Nat->World->Prop) (hJ:∀ k X Y,J k X->Za X Y->J k Y) (hJp:∀ k X l o o', J k X->X.heap[l]? = some o->o.isCells=false->w.heap.size<=l->J k (X.putObj l o')) (h0:J 0 w)
  (hround:∀ (l k:Nat) (vs:Array Value) (W:World),k<N->w.heap.size<=l->l<W.heap.size->J k W->Lk k vs W ->
   assign.wpIn (F.inRound l) (n-1-1) P (Exit.then (λ a' Wa=>Rnd w.heap.size B W Wa∧∀ o o', Wa.heap[l]? = some o->o.isCells=false->o'.isCells=false ->
    body.wpIn (F.inRound l) (n-1-1) P (λ e _ Y=>e=.normal∧Rnd w.heap.size B (Wa.putObj l o') Y∧J (k+1) Y) a' (Wa.putObj l o')) (λ _ _ _=>False))
    { tmps:=(ps.zip vs).foldl (λ t (p,v)=>t.setIfInBounds p v) a.tmps,defers:=[] } W)
  (hdone:∀ (D:Nat) (W:World),w.heap.size<=D->J N W->W.heap[D]? = some (.deferred (some []))->Q .normal { a with defers:={ target:=.collected D,args:=#[] } :: a.defers } W) :
  (Code.rangeFunc g ps assign body).wpIn F n P Q a w:=by
 refine wpIn_rangeFunc λ fn hfn=>?_;rw [hro];have hen:=run_enterLoop_outer (P:=P) (w:=w) fn a.tmps ps assign body;obtain ⟨st,hst⟩:∃ st:LoopState->Option Code->Loop,st=λ s p=>{ state:=s,pending:=p,fn:=fn,tmps:=a.tmps,params:=ps,assign:=assign,body:=body,defers:=w.heap.size }:=⟨_,rfl⟩;obtain ⟨W1,hW1⟩:∃ W1,W1=(w.alloc (.deferred (some []))).alloc (.loop (st .ready none)):=⟨_,rfl⟩;have hs1:Za w W1:=by rw [hW1];exact ((Zc.refl _ w).alloc _).alloc _
 have hd1:W1.heap[w.heap.size]? = some (.deferred (some [])):=by
  rw [hW1];exact (Below.heap_alloc _ _ _ (by simp)).trans (World.alloc_heap_new w _)
 have hl1:W1.heap[w.heap.size+1]? = some (.loop (st .ready none)):=by
  have:=World.alloc_heap_new (w.alloc (.deferred (some []))) (.loop (st .ready none));rw [hW1];simpa using this
 refine ⟨w.heap.size+1,[{ target:=.collected w.heap.size,args:=#[] }],W1, { target:=.fn (.func gf) lb,args:=#[.func (.yield (w.heap.size+1)) #[] #[]] },W1,gf, #[.func (.yield (w.heap.size+1)) #[] #[]]++lb,W1,?_,?_,?_,?_,λ _=>h1,?_⟩
 ·rw [hen,hW1,hst]
 ·simp only [resolve,hg];simp [go_sem]
 ·intro f' hf'; simp [Target.leads] at hf'; subst hf'; exact hFg
 ·simp [invoke,go_sem,eg]
 ·have hcall:=hh (w.heap.size+1) (λ k X=>J k X∧X.heap[w.heap.size+1]? = some (.loop (st .ready none))∧X.heap[w.heap.size]? = some (.deferred (some []))) W1 hs1
   (λ k X Y h hk=>⟨hJ k X Y h.1 hk,hk.at0 h.2.1,hk.at0 h.2.2⟩) ?_ ⟨hJ 0 _ _ h0 hs1,hl1,hd1⟩
  ·refine hcall.mono ?_
   rintro e Y ⟨⟨v,rfl⟩,hj,hl,hd⟩;have hend:=run_endLoop (P:=P) hl (by rw [hst];simp);rw [hst] at hend;exact ⟨none,_,hend,hdone w.heap.size _ (Nat.le_refl _) (hJp _ _ _ _ _ hj hl rfl (by omega)) ((World.putObj_heap_other (by omega)).trans hd)⟩
  ·rintro k vs X hk ⟨hj,hl,hd⟩ hlk
   have hy:=run_yield (P:=P) (args:=vs) hl (by rw [hst];exact hsz k vs X hlk);rw [hst] at hy;have hlX:w.heap.size+1<X.heap.size:=(Array.getElem?_eq_some_iff.1 hl).1;refine ⟨fn,_,assign,body,hy,roundIn_of_wpIn hfn (wpIn_mono (hround (w.heap.size+1) k vs X hk (by omega) hlX hj hlk) ?_)⟩;rintro e a' Wa hp;cases e with
   | normal=>
    obtain ⟨hr,hb⟩:=hp;have hla:=hr.recs.same _ _ (by omega) hl rfl;have hda:=hr.recs.same _ _ (Nat.le_refl _) hd rfl;have hlt:w.heap.size+1<Wa.heap.size:=(Array.getElem?_eq_some_iff.1 hla).1;refine ⟨_,run_beginRound hla (by rw [hst]),wpIn_mono (hb _ (.loop { st .ready none with state:=.busy }) hla rfl rfl) ?_⟩;rintro e2 a2 Y ⟨rfl,hr2,hj2⟩;have hl2:=hr2.recs.same _ _ (by omega) (World.putObj_heap_same (o:=.loop { st .ready none with state:=.busy }) hlt) rfl;have hd2:=hr2.recs.same _ _ (Nat.le_refl _) ((World.putObj_heap_other (o:=.loop { st .ready none with state:=.busy }) (by omega)).trans hda) rfl;have hend:=run_endRound (P:=P) none hl2;rw [hst] at hend;refine ⟨_,_,hend,rfl,⟨hJp _ _ _ _ _ hj2 hl2 rfl (by omega),?_,(World.putObj_heap_other (by omega)).trans hd2⟩,?_⟩
    ·rw [hst];exact World.putObj_heap_same (Array.getElem?_eq_some_iff.1 hl2).1
    ·exact (hr.below.trans (Zbv hla (by omega))).trans (hr2.below.trans (Zbv hl2 (by omega)))
   | _=>exact hp.elim
end
end
def smB (c:Int):Bool:=decide (97<=c) && decide (c<=122)
def dgB (c:Int):Bool:=decide (48<=c) && decide (c<=57)
def Zck (i:Nat) (c:Int):Bool:=smB c || (decide (0<i) && dgB c)
def Zya (s:ByteArray):Prop:=1<=s.size∧s.size<=12∧∀ i (h:i<s.size),Zck i (s[i].toNat:Int)=true
def X0 (s:ByteArray):Bool:=decide (1<=s.size∧s.size<=12∧∀ i (h:i<s.size),Zck i (s[i].toNat:Int)=true)
theorem Jn {s:ByteArray} (h:¬ Zya s):X0 s=false:=decide_eq_false h
theorem Zil {s:ByteArray} (h:Zya s):X0 s=true:=decide_eq_true h
section
open Go.RowKit
structure Sym where
 name:ByteArray
 ar:Int
 df:Bool
def Yt:List Sym->ByteArray->Option Nat
 | [],_=>none
 | x :: r,s=>if x.name=s then some 0 else (Yt r s).map (· + 1)
theorem Zpy (L:List Sym) (x:Sym) (s:ByteArray):Yt (L ++ [x]) s=match Yt L s with | some i=>some i | none=>if x.name=s then some L.length else none:=by
 induction L with
 | nil=>simp [Yt]
 | cons y r ih=>
  simp only [List.cons_append,Yt]
  by_cases h:y.name=s
  ·simp [h]
  ·simp only [h,if_false,ih]
   cases hf:Yt r s with
   | some i=>simp
   | none=>by_cases hx:x.name=s <;> simp [hx]
def Zw (L:List Sym):List Value:=L.flatMap λ x=>[.string x.name,.int .i64 x.ar,.bool x.df]
theorem Ze0 (L:List Sym):(Zw L).length=L.length * 3:=by
 induction L with
 | nil=>rfl
 | cons x r ih=>simp [Zw] at ih ⊢;omega
theorem Zbi (L:List Sym) (x:Sym):Zw (L ++ [x])=Zw L ++ [.string x.name,.int .i64 x.ar,.bool x.df]:=by simp [Zw]
theorem Kf {L:List Sym} {i:Nat} (h:i<L.length):(Zw L)[i * 3]? = some (.string L[i].name)∧(Zw L)[i * 3+1]? = some (.int .i64 L[i].ar)∧(Zw L)[i * 3+2]? = some (.bool L[i].df):=by
 induction L generalizing i with
 | nil=>simp at h
 | cons x r ih=>
  have e:Zw (x :: r)=.string x.name :: .int .i64 x.ar :: .bool x.df :: Zw r:=by simp [Zw]
  rw [e];cases i with
  | zero=>simp
  | succ j=>
   have:=ih (i:=j) (by simpa using h);rw [show (j+1) * 3=j * 3+1+1+1 by omega]
   simpa using this
def Zp (L:List Sym) (x:Sym):Int:=
 if X0 x.name=false then 10 else if x.ar<0∨6<x.ar then 11 else if (Yt L x.name).isSome then 12 else if 64<=L.length then 13 else 0
theorem Za2:(prog.info? 60).map (λ i=>(i.zero,i.size,i.bytes))=some (some (.agg #[.string ByteArray.empty,.int .i64 0,.bool false]),3,32):=by kernel_rfl
theorem Zb4:Maps.Keyed prog 9:=Maps.string_keyed underlying9
theorem Zmh (w:World):(zeroValue 3).run prog w=.ok (.int .i64 0) w:=by kernel_rfl
def Zct (w:World) (mr:Option Nat) (L:List Sym):Prop:=
 match mr with
 | none=>L=[]
 | some bm=>∃ n D,w.ownsMap (H:=Unit) prog 9 (plainElem prog 3) bm n D∧n<=L.length ∧
   ∀ s:ByteArray,Maps.has D (.string s.data.toList)=(Yt L s).isSome∧∀ i,Yt L s=some i->D.atKey (.string s.data.toList) (.lit (.int .i64 0))=.lit (.int .i64 (i:Int))
structure Yc (w:World) (b:Nat) (L:List Sym) (sv:Value) (mr:Option Nat):Prop where
 blk:w.heap[b]? = some (.cells #[sv,.map mr] 111 (0,0))
 row:w.ownsRow 0 60 3 sv L.length (Zw L)
 map:Zct w mr L
 apart:sv.ownBlock≠some b
 len:L.length<=64
 names:∀ x∈L,X0 x.name=true
def Foot (b:Nat) (sv:Value) (mr:Option Nat) (k:Nat):Prop:=k=b∨sv.ownBlock=some k∨mr=some k
theorem Zct.kept {S:Nat->Prop} {w w' : World} {mr:Option Nat} {L:List Sym} (h:Zct w mr L) (hk:Zc S w w') (hn:∀ k,mr=some k->¬ S k):Zct w' mr L:=by
 cases mr with
 | none=>exact h
 | some bm=>
  obtain ⟨n,D,hm,r⟩:=h;exact ⟨n,D,hk.map hm (hn bm rfl),r⟩
theorem Yc.kept {S:Nat->Prop} {w w' : World} {b:Nat} {L:List Sym} {sv:Value} {mr:Option Nat} (h:Yc w b L sv mr) (hk:Zc S w w') (hn:∀ k,Foot b sv mr k->¬ S k):Yc w' b L sv mr:=
 ⟨hk.at h.blk (hn b (.inl rfl)),hk.row h.row (λ k e=>hn k (.inr (.inl e))),h.map.kept hk (λ k e=>hn k (.inr (.inr e))),h.apart,h.len,h.names⟩
theorem Yc.sv {w:World} {b:Nat} {L:List Sym} {sv:Value} {mr:Option Nat} (h:Yc w b L sv mr):∃ ao cap,sv=.slice ao L.length cap:=by
 rcases h.row.2 with ⟨rfl,h0⟩ | ⟨g,cap,cur,rfl,_⟩
 ·exact ⟨none,0,by rw [h0]⟩
 ·exact ⟨_,cap,rfl⟩
theorem Ja {w:World} {b:Nat} {L:List Sym} {sv:Value} {mr:Option Nat} (h:Yc w b L sv mr):∀ k,Foot b sv mr k->k<w.heap.size:=by
 intro k hk
 rcases hk with e | e | e
 ·subst e;exact Zi h.blk
 ·exact (h.row.lt k e).2
 ·subst e
  obtain ⟨n,D,hm,_⟩:=h.map;exact hm.lt
theorem Zkz {s:ByteArray} (hs:s.size<=maxLen):keyOf prog 9 (.string s)=some (.string s.data.toList):=Go.WideMaps.keyOf_string_mk underlying9 hs
theorem Zct.look {w:World} {mr:Option Nat} {L:List Sym} (h:Zct w mr L) {s:ByteArray} (hs:s.size<=maxLen) :
  (Instr.lookup 109 (.map mr) (.string s) true).run prog w=.ok (.tuple #[.int .i64 (((Yt L s).getD 0:Nat):Int),.bool (Yt L s).isSome]) w:=by
 cases mr with
 | none=>
  obtain rfl:L=[]:=h;rw [Maps.look_nil true Zb4 underlying109 (Zmh w) (Zkz hs)];simp [Yt]
 | some bm=>
  obtain ⟨n,D,hm,hn,hall⟩:=h;obtain ⟨v,ps,hrun,hv⟩:=hm.look_ok Zb4 underlying109 (Zmh w) (plainElem_int underlying3 (by decide)) (Zkz hs);obtain ⟨a,rfl,hz,_⟩:=plainElem_int_inv underlying3 hv;rw [hrun,(hall s).1];simp only [Prod.mk.injEq] at hz;cases hf:Yt L s with
  | none=>
   have hno:Maps.has D (.string s.data.toList)=false:=by rw [(hall s).1,hf];rfl
   rw [Maps.atKey_of_not_has hno] at hz;have:=hz.1;simp at this;simp [<- this]
  | some i=>
   rw [(hall s).2 i hf] at hz;have:=hz.1;simp at this;simp [<- this]
abbrev symV (x:Sym):Value:=.agg #[.string x.name,.int .i64 x.ar,.bool x.df]
end
def arN (L:List Sym) (n:Int):Nat:=if n<0 then 0 else match L[n.toNat]? with | some x=>x.ar.toNat | none=>0
def Xv (L:List Sym):Nat->List Int->Option Nat
 | 0,_=>some 0
 | _+1,[]=>none
 | k+1,x :: r=>(Xv L (k+arN L x) r).map (· + 1)
def Yk (L:List Sym):Nat->List Int->Option Nat
 | k,[]=>some k
 | 0,_ :: _=>none
 | k+1,x :: r=>Yk L (k+arN L x) r
theorem Xa (L:List Sym) (ts:List Int):Xv L 0 ts=some 0:=by cases ts <;> rfl
theorem Y8 (L:List Sym) (k:Nat) (a b:List Int):Yk L k (a++b)=(Yk L k a).bind (λ m=>Yk L m b):=by
 induction a generalizing k with
 | nil=>simp [Yk]
 | cons x r ih=>
  cases k with
  | zero=>simp [Yk]
  | succ k=>simp [Yk,ih]
theorem Zdd {L:List Sym} {k m:Nat} {a:List Int} (h:Yk L k a=some m) (j:Nat):Yk L (k+j) a=some (m+j):=by
 induction a generalizing k with
 | nil=>simp [Yk] at h ⊢;omega
 | cons x r ih=>
  cases k with
  | zero=>simp [Yk] at h
  | succ k=>
   rw [show k+1+j=(k+j)+1 by omega];simp only [Yk] at h ⊢;have:=ih h;rw [show k+arN L x+j=k+j+arN L x by omega] at this;exact this
theorem Zat {L:List Sym} {a b:Nat} {ts:List Int} (h:Yk L (a+b) ts=some 0):∃ n,Xv L a ts=some n∧n<=ts.length∧Yk L b (ts.drop n)=some 0:=by
 induction ts generalizing a with
 | nil=>
  simp [Yk] at h;obtain ⟨rfl,rfl⟩:=h;exact ⟨0,rfl,by simp,by simp [Yk]⟩
 | cons x r ih=>
  cases a with
  | zero=>exact ⟨0,by simp [Xa],by simp,by simpa using h⟩
  | succ a=>
   rw [show a+1+b=(a+b)+1 by omega] at h;simp only [Yk] at h;rw [show a+b+arN L x=(a+arN L x)+b by omega] at h;obtain ⟨n,h1,h2,h3⟩:=ih h;exact ⟨n+1,by simp [Xv,h1],by simpa using h2,by simpa using h3⟩
theorem Vn {L:List Sym} {k n:Nat} {ts:List Int} (h:Xv L k ts=some n):n<=ts.length∧Yk L k (ts.take n)=some 0:=by
 induction ts generalizing k n with
 | nil=>cases k <;> simp [Xv] at h;subst h;simp [Yk]
 | cons x r ih=>
  cases k with
  | zero=>simp [Xv] at h;subst h;simp [Yk]
  | succ k=>
   simp only [Xv,Option.map_eq_some_iff] at h;obtain ⟨m,hm,rfl⟩:=h;obtain ⟨h1,h2⟩:=ih hm;exact ⟨by simpa using h1,by simpa [Yk] using h2⟩
theorem X1 {L:List Sym} {k:Nat} {a b:List Int} (h:Yk L k a=some 0):Xv L k (a++b)=some a.length:=by
 induction a generalizing k with
 | nil=>simp [Yk] at h;subst h;simp [Xa]
 | cons x r ih=>
  cases k with
  | zero=>simp [Yk] at h
  | succ k=>
   simp only [Yk] at h;simp [Xv,ih h]
theorem Zbg {L:List Sym} {k n:Nat} {ts:List Int} (h:Xv L (k+1) ts=some n):0<n:=by
 cases ts with
 | nil=>simp [Xv] at h
 | cons x r=>simp only [Xv,Option.map_eq_some_iff] at h;obtain ⟨m,_,rfl⟩:=h;omega
theorem Zvs {L:List Sym} {a b m:Nat} {ts:List Int} (h:Xv L (a+b) ts=some m):∃ n n', Xv L a ts=some n∧Xv L b (ts.drop n)=some n' ∧ m=n+n' := by
 obtain ⟨h1,h2⟩:=Vn h;obtain ⟨n,h3,h4,h5⟩:=Zat h2;obtain ⟨h6,h7⟩:=Vn h3;have h4:n<=m:=by simp at h4;omega
 have e1:ts.take m=ts.take n++(ts.drop n).take (m-n):=by
  rw [List.take_drop,show n+(m-n)=m by omega];have:=(List.take_append_drop n (ts.take m)).symm
  rwa [List.take_take,Nat.min_eq_left h4] at this
 have h8:Yk L a (ts.take n)=some 0:=by rwa [List.take_take,Nat.min_eq_left h4] at h7
 refine ⟨n,m-n,?_,?_,by omega⟩
 ·have:=X1 (b:=ts.drop n) h8
  rw [List.take_append_drop] at this;rw [this];simp;omega
 ·have h9:Yk L b ((ts.drop n).take (m-n))=some 0:=by
   have:(ts.take m).drop n=(ts.drop n).take (m-n):=by rw [List.drop_take]
   rwa [this] at h5
  have:=X1 (b:=(ts.drop n).drop (m-n)) h9;rw [List.take_append_drop] at this;rw [this];simp;omega
def Zie (L:List Sym) (t:List Int) (p:Nat):Option Nat:=(Xv L 1 (t.drop p)).map (p + ·)
def Zj (L:List Sym) (t:List Int) (p:Nat):Nat:=(Zie L t p).getD t.length
def IsT (L:List Sym) (t:List Int):Prop:=Yk L 1 t=some 0
theorem Zv4 {L:List Sym} {t:List Int} (h:IsT L t) {p:Nat} (hp:p<t.length):∃ k,Yk L (k+1) (t.drop p)=some 0:=by
 have h' : Yk L 1 (t.take p++t.drop p)=some 0:=by rw [List.take_append_drop];exact h
 rw [Y8] at h';cases hn:Yk L 1 (t.take p) with
 | none=>simp [hn] at h'
 | some k=>
  simp only [hn,Option.bind_some] at h';cases k with
  | zero=>
   have:t.drop p≠[]:=by intro e;have:=congrArg List.length e;simp at this;omega
   cases hd:t.drop p with
   | nil=>exact absurd hd this
   | cons x r=>rw [hd] at h'; simp [Yk] at h'
  | succ k=>exact ⟨k,h'⟩
theorem Zau {L:List Sym} {t:List Int} (h:IsT L t) {p:Nat} (hp:p<t.length):∃ n,Xv L 1 (t.drop p)=some n∧0<n∧p+n<=t.length:=by
 obtain ⟨k,hk⟩:=Zv4 h hp;rw [Nat.add_comm] at hk;obtain ⟨n,h1,h2,_⟩:=Zat hk;exact ⟨n,h1,Zbg (k:=0) h1,by simp at h2;omega⟩
theorem Xg {L:List Sym} {t:List Int} {p n:Nat} (h:Xv L 1 (t.drop p)=some n):Zj L t p=p+n:=by simp [Zj,Zie,h]
theorem Zs0 {L:List Sym} {t:List Int} (h:IsT L t) {p:Nat} (hp:p<t.length):Zie L t p=some (Zj L t p):=by
 obtain ⟨n,h1,_,_⟩:=Zau h hp;rw [Xg h1,Zie,h1];rfl
theorem Xs {L:List Sym} {t:List Int} (h:IsT L t) {p:Nat} (hp:p<t.length):p<Zj L t p∧Zj L t p<=t.length:=by
 obtain ⟨n,h1,h2,h3⟩:=Zau h hp;rw [Xg h1];omega
theorem Z2 {L:List Sym} {t:List Int} (h:IsT L t):0<t.length:=by
 cases t with
 | nil=>simp [IsT,Yk] at h
 | cons=>simp
theorem Ze6 {L:List Sym} {t:List Int} (h:IsT L t):Zj L t 0=t.length:=by
 have:=X1 (b:=[]) h;rw [List.append_nil] at this;rw [Xg (n:=t.length) (by simpa using this)];omega
def Zq (L:List Sym) (t:List Int):Nat->Nat->List Nat
 | 0,_=>[]
 | k+1,p=>p :: Zq L t k (Zj L t p)
theorem Zk (L:List Sym) (t:List Int) (k p:Nat):(Zq L t k p).length=k:=by
 induction k generalizing p with
 | zero=>rfl
 | succ k ih=>simp [Zq,ih]
def past (L:List Sym) (t:List Int):Nat->Nat->Nat
 | 0,p=>p
 | k+1,p=>past L t k (Zj L t p)
theorem Zaf (L:List Sym) (t:List Int) (k p:Nat):past L t (k+1) p=Zj L t (past L t k p):=by
 induction k generalizing p with
 | zero=>rfl
 | succ k ih=>rw [past,ih,past]
theorem Zbd {L:List Sym} {t:List Int} {k p i:Nat} (h:i<k):(Zq L t k p)[i]? = some (past L t i p):=by
 induction k generalizing p i with
 | zero=>omega
 | succ k ih=>
  cases i with
  | zero=>simp [Zq,past]
  | succ i=>simpa [Zq,past] using ih (p:=Zj L t p) (by omega)
theorem Zdp (L:List Sym) (t:List Int) (k p:Nat):Zq L t (k+1) p=Zq L t k p ++ [past L t k p]:=by
 induction k generalizing p with
 | zero=>simp [Zq,past]
 | succ k ih=>
  have:=ih (Zj L t p)
  conv=>lhs;rw [Zq]
  rw [this];simp [Zq,past]
def Zs (L:List Sym) (t:List Int) (k p q:Nat):Prop:=∃ n,Xv L k (t.drop p)=some n∧q=p+n∧q<=t.length
theorem Zs.zero {L:List Sym} {t:List Int} {p q:Nat} (h:Zs L t 0 p q):q=p:=by
 obtain ⟨n,h1,h2,_⟩:=h;simp [Xa] at h1;omega
theorem Zs.le {L:List Sym} {t:List Int} {k p q:Nat} (h:Zs L t k p q):p<=q∧q<=t.length:=by
 obtain ⟨n,_,h2,h3⟩:=h;omega
theorem Zs.succ {L:List Sym} {t:List Int} {k p q:Nat} (h:Zs L t (k+1) p q):Zs L t 1 p (Zj L t p)∧p<Zj L t p∧Zs L t k (Zj L t p) q:=by
 obtain ⟨n,h1,h2,h3⟩:=h;rw [Nat.add_comm] at h1;obtain ⟨a,b,h4,h5,h6⟩:=Zvs h1;have e:=Xg h4;have ha:=Zbg (k:=0) h4;refine ⟨⟨a,h4,e,by omega⟩,by omega,b,?_,by omega,h3⟩;rw [e,<- List.drop_drop];exact h5
theorem Zs.pos {L:List Sym} {t:List Int} {k p q:Nat} (h:Zs L t (k+1) p q):p<q:=by
 have:=h.succ.2.1;have:=h.succ.2.2.le;omega
theorem Zs.one {L:List Sym} {t:List Int} (h:IsT L t) {p:Nat} (hp:p<t.length):Zs L t 1 p (Zj L t p):=by
 obtain ⟨n,h1,h2,h3⟩:=Zau h hp;exact ⟨n,h1,Xg h1,by rw [Xg h1];exact h3⟩
theorem Zs.kids {L:List Sym} {t:List Int} {p q:Nat} (h:Zs L t 1 p q):∃ hp:p<t.length,Zs L t (arN L t[p]) (p+1) q:=by
 obtain ⟨n,h1,h2,h3⟩:=h;have hn:=Zbg (k:=0) h1;have hp:p<t.length:=by omega
 refine ⟨hp,?_⟩;rw [List.drop_eq_getElem_cons hp] at h1;simp only [Xv,Nat.zero_add,Option.map_eq_some_iff] at h1;obtain ⟨m,hm,rfl⟩:=h1;exact ⟨m,hm,by omega,h3⟩
theorem Zs.past {L:List Sym} {t:List Int} {k p q:Nat} (h:Zs L t k p q):past L t k p=q:=by
 induction k generalizing p with
 | zero=>exact h.zero.symm
 | succ k ih=>rw [Proofs.YtmjgnfkbnofjoaaGreatDoor.past];exact ih h.succ.2.2
theorem Zs.drop {L:List Sym} {t:List Int} {k i p q:Nat} (h:Zs L t k p q) (hi:i<=k):Zs L t (k-i) (Proofs.YtmjgnfkbnofjoaaGreatDoor.past L t i p) q:=by
 induction i generalizing k p with
 | zero=>exact h
 | succ i ih=>
  cases k with
  | zero=>omega
  | succ k=>
   have:=ih h.succ.2.2 (by omega)
   simpa [Proofs.YtmjgnfkbnofjoaaGreatDoor.past] using this
theorem Zbf {L:List Sym} {t:List Int} {k p q:Nat} (h:Zs L t k p q) {i j:Nat} (hij:i<j) (hj:j<=k):Zj L t (past L t i p)<=past L t j p:=by
 induction j with
 | zero=>omega
 | succ j ih=>
  rw [Zaf]
  by_cases e:i=j
  ·subst e;exact Nat.le_refl _
  ·have h1:=ih (by omega) (by omega)
   have h2:=h.drop (i:=j) (by omega);obtain ⟨m,hm⟩:∃ m,k-j=m+1:=⟨k-j-1,by omega⟩;rw [hm] at h2;have:=h2.succ.2.1;omega
def Z8 (L:List Sym) (t:List Int) (p:Nat):List Nat:=Zq L t (arN L (t.getD p 0)) (p+1)
theorem Z9 {L:List Sym} {t:List Int} {p:Nat} (hp:p<t.length):Z8 L t p=Zq L t (arN L t[p]) (p+1):=by
 simp [Z8,hp]
def Zd7:List (Nat × Nat)->List (Nat × Nat)
 | []=>[]
 | (j,a) :: st=>if j+1<a then (j+1,a) :: st else Zd7 st
def pass (st:List (Nat × Nat)) (a:Nat):List (Nat × Nat):=if 0<a then (0,a) :: st else Zd7 st
def run (L:List Sym) (st:List (Nat × Nat)) (ts:List Int):List (Nat × Nat):=ts.foldl (λ s x=>pass s (arN L x)) st
theorem Zgg (L:List Sym) (st:List (Nat × Nat)) (a b:List Int):run L st (a++b)=run L (run L st a) b:=by simp [run]
def way (L:List Sym) (t:List Int) (p:Nat):List (Nat × Nat):=run L [] (t.take p)
theorem Zg5 {L:List Sym} {t:List Int} {p:Nat} (hp:p<t.length):way L t (p+1)=pass (way L t p) (arN L t[p]):=by
 unfold way;rw [List.take_add_one,Zgg,List.getElem?_eq_getElem hp];rfl
theorem Zo6 {L:List Sym} {t:List Int} (n:Nat):∀ (p q:Nat),q-p<=n ->
  (Zs L t 1 p q->way L t q=Zd7 (way L t p)) ∧
  (∀ (k j a:Nat) (st:List (Nat × Nat)),Zs L t (k+1) p q->way L t p=(j,a) :: st->j+(k+1)=a->way L t q=Zd7 st):=by
 induction n with
 | zero=>
  intro p q h;refine ⟨λ hf=>?_,λ k j a st hf _ _=>?_⟩
  ·have:=hf.pos;omega
  ·have:=hf.pos;omega
 | succ n ih=>
  intro p q h
  have one:Zs L t 1 p q->way L t q=Zd7 (way L t p):=by
   intro hf;obtain ⟨hp,hk⟩:=hf.kids;have hw:=Zg5 (L:=L) hp;cases ha:arN L t[p] with
   | zero=>
    rw [ha] at hk hw;rw [hk.zero,hw];rfl
   | succ a=>
    rw [ha] at hk hw;exact (ih (p+1) q (by omega)).2 a 0 (a+1) (way L t p) hk (by rw [hw];rfl) (by omega)
  refine ⟨one,?_⟩;intro k j a st hf hw hj;cases k with
  | zero=>
   rw [one hf,hw,Zd7,if_neg (by omega)]
  | succ k=>
   obtain ⟨h1,h2,h3⟩:=hf.succ;have h4:=h3.pos;have e1:=(ih p (Zj L t p) (by omega)).1 h1;rw [hw,Zd7,if_pos (by omega)] at e1;exact (ih (Zj L t p) q (by omega)).2 k (j+1) a st h3 e1 (by omega)
theorem Zzd {L:List Sym} {t:List Int} {p q:Nat} (h:Zs L t 1 p q):way L t q=Zd7 (way L t p):=(Zo6 (q-p) p q (Nat.le_refl _)).1 h
theorem Zwl {L:List Sym} {t:List Int} {k p q:Nat} (h:Zs L t k p q) {j a:Nat} {st:List (Nat × Nat)} (hw:way L t p=(j,a) :: st) {i:Nat} (hi:i<k) (ha:j+k<=a) :
  way L t (past L t i p)=(j+i,a) :: st:=by
 induction i generalizing k j p with
 | zero=>exact hw
 | succ i ih=>
  cases k with
  | zero=>omega
  | succ k=>
   obtain ⟨h1,h2,h3⟩:=h.succ;have e1:=Zzd h1;rw [hw,Zd7,if_pos (by omega)] at e1;have:=ih h3 e1 (by omega) (by omega);rw [show j+1+i=j+(i+1) by omega] at this;exact this
theorem Zq3 {L:List Sym} {t:List Int} {k p q at' : Nat} (h:Zs L t k p q) (h1:p<=at') (h2:at' < q):∃ i,i<k∧past L t i p<=at' ∧ at' < Zj L t (past L t i p):=by
 induction k generalizing p with
 | zero=>have:=h.zero;omega
 | succ k ih=>
  obtain ⟨f1,f2,f3⟩:=h.succ
  by_cases e:at' < Zj L t p
  ·exact ⟨0,by omega,h1,e⟩
  ·obtain ⟨i,hi,g1,g2⟩:=ih f3 (by omega)
   exact ⟨i+1,by omega,g1,g2⟩
theorem kid_in {L:List Sym} {t:List Int} (h:IsT L t) {p a:Nat} (hp:p<t.length) (h1:p<a) (h2:a<Zj L t p) :
  ∃ i,i<arN L t[p]∧past L t i (p+1)<=a∧a<Zj L t (past L t i (p+1))∧past L t i (p+1)<t.length∧p<past L t i (p+1)∧way L t (past L t i (p+1))=(i,arN L t[p]) :: way L t p ∧
   ∀ j,j<arN L t[p]->(past L t j (p+1)<=a∧a<Zj L t (past L t j (p+1)) ↔ j=i):=by
 obtain ⟨hp', hk⟩:=(Zs.one h hp).kids;obtain ⟨i,hi,g1,g2⟩:=Zq3 hk (by omega) h2;have hle:=(Xs h hp).2;have hw:way L t (p+1)=(0,arN L t[p]) :: way L t p:=by rw [Zg5 hp,pass,if_pos (by omega)]
 have hwi:=Zwl hk hw hi (by omega);rw [Nat.zero_add] at hwi
 have hpp:p<past L t i (p+1):=by
  cases i with
  | zero=>simp [past]
  | succ i=>
   have:=Zbf hk (i:=0) (j:=i+1) (by omega) (by omega);have h5:=hk.drop (i:=0) (by omega);have:=(Zs.one h (p:=p+1) (by omega)).pos;simp [past] at *;omega
 refine ⟨i,hi,g1,g2,by omega,hpp,hwi,λ j hj=>⟨λ ⟨x1,x2⟩=>?_,λ e=>by subst e;exact ⟨g1,g2⟩⟩⟩
 rcases Nat.lt_trichotomy j i with hji | hji | hji
 ·have:=Zbf hk hji (by omega);omega
 ·exact hji
 ·have:=Zbf hk hji (by omega);omega
def leads (L:List Sym) (t:List Int):Nat->List Int->Option Nat
 | p,[]=>some p
 | p,n :: r=>if n<0 then none else match (Z8 L t p)[n.toNat]? with | some q=>leads L t q r | none=>none
theorem Zjs {L:List Sym} {t:List Int} {p q:Nat} {a b:List Int} (h:leads L t p a=some q):leads L t p (a++b)=leads L t q b:=by
 induction a generalizing p with
 | nil=>simp [leads] at h;subst h;rfl
 | cons n r ih=>
  simp only [leads,List.cons_append] at h ⊢
  by_cases hn:n<0
  ·simp [hn] at h
  ·simp only [hn,if_false] at h ⊢
   cases ha:(Z8 L t p)[n.toNat]? with
   | none=>simp [ha] at h
   | some q' => simp only [ha] at h ⊢;exact ih h
def Kx (L:List Sym) (t:List Int) (p:Nat) (u:List Int):List Int:=t.take p++u++t.drop (Zj L t p)
def Jr (L:List Sym) (t:List Int) (p:Nat):List Int:=(t.take (Zj L t p)).drop p
theorem Zao {L:List Sym} {t:List Int} (h:IsT L t) {p:Nat} (hp:p<t.length):IsT L (Jr L t p):=by
 obtain ⟨n,h1,h2,h3⟩:=Zau h hp;have:=(Vn h1).2;unfold IsT Jr;rw [Xg h1,List.drop_take]
 simpa using this
theorem Zx4 {L:List Sym} {t:List Int} (h:IsT L t) {p:Nat} (hp:p<t.length):Kx L t p (Jr L t p)=t:=by
 have he:=Xs h hp;unfold Kx Jr;have e1:t.take p=(t.take (Zj L t p)).take p:=by rw [List.take_take,Nat.min_eq_left (by omega)]
 rw [e1,List.take_append_drop,List.take_append_drop]
theorem Zuo {L:List Sym} {t:List Int} (h:IsT L t) {p:Nat} (hp:p<t.length) {u:List Int} (hu:IsT L u):IsT L (Kx L t p u):=by
 have h0:Yk L 1 (Kx L t p (Jr L t p))=some 0:=by rw [Zx4 h hp];exact h
 unfold Kx at h0 ⊢;unfold IsT;rw [List.append_assoc,Y8] at h0 ⊢;cases hk:Yk L 1 (t.take p) with
 | none=>simp [hk] at h0
 | some k=>
  simp only [hk,Option.bind_some] at h0 ⊢;rw [Y8] at h0 ⊢;cases k with
  | zero=>
   have hs:=Zao h hp;have:=Z2 hs;cases hd:Jr L t p with
   | nil=>simp [hd] at this
   | cons x r=>rw [hd] at h0;simp [Yk] at h0
  | succ k=>
   have e1:=Zdd (Zao h hp) k;have e2:=Zdd hu k;rw [Nat.add_comm 1 k] at e1 e2;rw [e1] at h0;rw [e2];exact h0
theorem Zoo {L:List Sym} {t:List Int} (h:IsT L t) {p:Nat} (hp:p<t.length) (u:List Int):(Kx L t p u).length=t.length-(Zj L t p-p)+u.length:=by
 have:=Xs h hp;simp [Kx];omega
theorem Zap {L:List Sym} {t:List Int} (h:IsT L t) {p:Nat} (hp:p<t.length):(Jr L t p).length=Zj L t p-p:=by
 have:=Xs h hp;simp [Jr];omega
def Ks (L:List Sym):List Int->Int
 | []=>0
 | x :: r=>if (L.length:Int)<=x then 21 else if x < -99 then 22 else Ks L r
def Zd (L:List Sym) (t:List Int):Int:=if 2000<t.length then 20 else if Ks L t≠0 then Ks L t else if Yk L 1 t=some 0 then 0 else 23
def Zz (L:List Sym) (t:List Int) (at' : Int):Int:=if Zd L t≠0 then Zd L t else if at' < 0∨(t.length:Int)<=at' then 24 else 0
theorem Zr {L:List Sym} {t:List Int}:Ks L t=0 ↔ ∀ x∈t,x<(L.length:Int) ∧ -99<=x:=by
 induction t with
 | nil=>simp [Ks]
 | cons x r ih=>
  simp only [Ks,List.mem_cons,forall_eq_or_imp]
  by_cases h1:(L.length:Int)<=x
  ·simp only [h1,if_true];constructor
   ·intro h;omega
   ·intro h;omega
  ·by_cases h2:x < -99
   ·simp only [h1,h2,if_true,if_false];constructor
    ·intro h;omega
    ·intro h;omega
   ·simp only [h1,h2,if_false,ih];constructor
    ·intro h;exact ⟨by omega,h⟩
    ·intro h;exact h.2
theorem Zei (L:List Sym) (a b:List Int) (h:Ks L a=0):Ks L (a++b)=Ks L b:=by
 induction a with
 | nil=>rfl
 | cons x r ih=>
  simp only [Ks] at h
  by_cases h1:(L.length:Int)<=x
  ·simp [h1] at h
  ·by_cases h2:x < -99
   ·simp [h1,h2] at h
   ·simp only [h1,h2,if_false] at h
    simp only [List.cons_append,Ks,h1,h2,if_false];exact ih h
theorem Ze {L:List Sym} {t:List Int}:Zd L t=0 ↔ t.length<=2000∧Ks L t=0∧IsT L t:=by
 unfold Zd IsT
 by_cases h1:2000<t.length
 ·simp [h1];intro;omega
 ·by_cases h2:Ks L t=0
  ·by_cases h3:Yk L 1 t=some 0
   ·simp [h1,h2,h3];omega
   ·simp [h1,h2,h3]
  ·simp [h1,h2]
def isV (x:Int):Bool:=decide (-99<=x∧x <= -1)
def Trs (L:List Sym) (J:List Int):Prop:=∀ p,p<J.length->Zs L J 1 p (Zj L J p)
def shF (apart x:Int):Int:=if x<0 then x-apart else x
def jl (a b:List Int) (apart:Int):List Int:=a++b.map (shF apart)
theorem Zs9 (L:List Sym) {apart:Int} (h:0<=apart) (x:Int):arN L (shF apart x)=arN L x:=by
 unfold shF;split
 ·unfold arN;rw [if_pos (by omega),if_pos (by omega)]
 ·rfl
theorem Zyg (L:List Sym) {apart:Int} (h:0<=apart) (k:Nat) (b:List Int):Yk L k (b.map (shF apart))=Yk L k b:=by
 induction b generalizing k with
 | nil=>rfl
 | cons x r ih=>
  cases k with
  | zero=>rfl
  | succ k=>simp only [List.map_cons,Yk,Zs9 L h,ih]
theorem Zmv {L:List Sym} {apart:Int} (h:0<=apart) {b:List Int} (hb:IsT L b):IsT L (b.map (shF apart)):=by
 unfold IsT;rw [Zyg L h];exact hb
theorem Zd3 {L:List Sym} {k n:Nat} {ts:List Int} (h:Xv L k ts=some n) (r:List Int):Xv L k (ts++r)=some n:=by
 obtain ⟨h1,h2⟩:=Vn h;have:=X1 (b:=ts.drop n++r) h2;rw [<- List.append_assoc,List.take_append_drop] at this;rw [this];simp;omega
theorem Zpj {L:List Sym} {a b:List Int} (ha:IsT L a) (hb:IsT L b):Trs L (a++b):=by
 intro p hp
 have key:∃ n,Xv L 1 ((a++b).drop p)=some n∧p+n<=(a++b).length:=by
  by_cases h:p<a.length
  ·obtain ⟨n,h1,h2,h3⟩:=Zau ha h
   refine ⟨n,?_,by simp;omega⟩;rw [List.drop_append_of_le_length (by omega)];exact Zd3 h1 b
  ·obtain ⟨n,h1,h2,h3⟩:=Zau hb (p:=p-a.length) (by simp at hp;omega)
   refine ⟨n,?_,by simp;omega⟩;rw [List.drop_append,List.drop_eq_nil_of_le (by omega),List.nil_append];exact h1
 obtain ⟨n,h1,h2⟩:=key;exact ⟨n,h1,Xg h1,by rw [Xg h1];exact h2⟩
theorem Zcq {L:List Sym} {a b:List Int} {apart:Int} (h:0<=apart) (ha:IsT L a) (hb:IsT L b):Trs L (jl a b apart):=Zpj ha (Zmv h hb)
theorem Trs.lt {L:List Sym} {J:List Int} (h:Trs L J) {p:Nat} (hp:p<J.length):p<Zj L J p∧Zj L J p<=J.length:=⟨(h p hp).pos,(h p hp).le.2⟩
theorem Trs.kids {L:List Sym} {J:List Int} (h:Trs L J) {p:Nat} (hp:p<J.length):Zs L J (arN L J[p]) (p+1) (Zj L J p):=by
 obtain ⟨_,h2⟩:=(h p hp).kids;exact h2
def Z0 (J:List Int) (x:Int):Prop:=-198<=x∧x<(J.length:Int)
def at' (J:List Int) (x:Int):Int:=J.getD x.toNat 0
def un (p q:Int) (ld:Int->Int):Int->Int:=λ x=>if ld x=p then q else ld x
def ld0 (J:List Int):Int->Int:=λ x=>if 0<=x∧at' J x<0 then at' J x else x
structure Zcl (J:List Int) (ld:Int->Int):Prop where
 part:∀ x,Z0 J x->Z0 J (ld x)
 idem:∀ x,Z0 J x->ld (ld x)=ld x
 sym:∀ x,Z0 J x->0<=ld x->0<=at' J (ld x)
 like:∀ x,Z0 J x->0<=x->0<=at' J x->0<=ld x∧at' J (ld x)=at' J x
theorem Yl (J:List Int) (p:Nat) (h:p<J.length):at' J (p:Int)=J[p]:=by
 unfold at';rw [Int.toNat_natCast,List.getD_eq_getElem?_getD,List.getElem?_eq_getElem h];rfl
theorem Zuc {J:List Int} (hv:∀ x∈J, -198<=x):Zcl J (ld0 J):=by
 have hm:∀ x,Z0 J x->0<=x -> -198<=at' J x:=by
  intro x hx h0;obtain ⟨k,rfl⟩:=Int.eq_ofNat_of_zero_le h0;rw [Yl J k (by have:=hx.2;omega)];exact hv _ (List.getElem_mem _)
 refine ⟨?_,?_,?_,?_⟩
 ·intro x hx
  unfold ld0;split
  ·rename_i h;exact ⟨hm x hx h.1,by have:=h.2;unfold Z0 at hx;omega⟩
  ·exact hx
 ·intro x hx
  by_cases h:0<=x∧at' J x<0
  ·have e:ld0 J x=at' J x:=by unfold ld0;rw [if_pos h]
   rw [e];unfold ld0;rw [if_neg (by omega)]
  ·have e:ld0 J x=x:=by unfold ld0;rw [if_neg h]
   rw [e,e]
 ·intro x hx h0
  by_cases h:0<=x∧at' J x<0
  ·have e:ld0 J x=at' J x:=by unfold ld0;rw [if_pos h]
   omega
  ·have e:ld0 J x=x:=by unfold ld0;rw [if_neg h]
   rw [e] at h0 ⊢;omega
 ·intro x hx h0 h1
  have e:ld0 J x=x:=by unfold ld0;rw [if_neg (by omega)]
  rw [e];exact ⟨h0,rfl⟩
theorem Zcl.un {J:List Int} {ld:Int->Int} (h:Zcl J ld) {p q:Int} (hp:ld p=p) (hq:ld q=q) (hq2:Z0 J q) (hpq:p≠q) (hs:0<=q->0<=at' J q) (hl:0<=p->0<=q∧at' J q=at' J p):Zcl J (un p q ld):=by
 have u1:∀ x,ld x=p->Proofs.YtmjgnfkbnofjoaaGreatDoor.un p q ld x=q:=λ x e=>by unfold Proofs.YtmjgnfkbnofjoaaGreatDoor.un;rw [if_pos e]
 have u2:∀ x,ld x≠p->Proofs.YtmjgnfkbnofjoaaGreatDoor.un p q ld x=ld x:=λ x e=>by unfold Proofs.YtmjgnfkbnofjoaaGreatDoor.un;rw [if_neg e]
 refine ⟨?_,?_,?_,?_⟩ <;> intro x hx <;> by_cases e:ld x=p
 ·rw [u1 x e];exact hq2
 ·rw [u2 x e];exact h.part x hx
 ·rw [u1 x e,u2 q (by rw [hq];exact λ f=>hpq f.symm),hq]
 ·rw [u2 x e,u2 (ld x) (by rw [h.idem x hx];exact e),h.idem x hx]
 ·rw [u1 x e];exact hs
 ·rw [u2 x e];exact h.sym x hx
 ·intro h0 h1
  obtain ⟨g1,g2⟩:=h.like x hx h0 h1;rw [e] at g1 g2;obtain ⟨g3,g4⟩:=hl g1;rw [u1 x e];exact ⟨g3,g4.trans g2⟩
 ·rw [u2 x e];exact h.like x hx
def Ze9 (L:List Sym) (J:List Int):Nat->(Int->Int)->List (Nat × Nat × Nat)->Option (Option (Int->Int))
 | 0,_,_=>none
 | _+1,ld,[]=>some (some ld)
 | n+1,ld,(x,y,o) :: r=>
  if x<y then
   if ld x=ld o then Ze9 L J n ld ((Zj L J x,y,Zj L J o) :: r)
   else if ld x<0 then Ze9 L J n (un (ld x) (ld o) ld) ((Zj L J x,y,Zj L J o) :: r)
   else if ld o<0 then Ze9 L J n (un (ld o) (ld x) ld) ((Zj L J x,y,Zj L J o) :: r)
   else if at' J (ld x)≠at' J (ld o) then some none
   else Ze9 L J n (un (ld x) (ld o) ld) (((ld x).toNat+1,Zj L J (ld x).toNat,(ld o).toNat+1) :: (Zj L J x,y,Zj L J o) :: r)
  else Ze9 L J n ld r
def Zb8 (L:List Sym) (J:List Int) (r:Nat × Nat × Nat):Prop:=∃ k z,Zs L J k r.1 r.2.1∧Zs L J k r.2.2 z
theorem Zb8.step {L:List Sym} {J:List Int} {x y o:Nat} (h:Zb8 L J (x,y,o)) (hxy:x<y):x<Zj L J x∧Zj L J x<=y∧y<=J.length∧o<J.length∧o<Zj L J o∧Zb8 L J (Zj L J x,y,Zj L J o):=by
 obtain ⟨k,z,h1,h2⟩:=h;cases k with
 | zero=>have:=h1.zero;simp only at this;omega
 | succ k=>
  obtain ⟨g1,g2,g3⟩:=h1.succ;obtain ⟨f1,f2,f3⟩:=h2.succ;simp only at g1 g2 g3 f1 f2 f3;have:=g3.le;have:=f1.le;exact ⟨g2,by omega,by omega,by omega,f2,k,z,g3,f3⟩
theorem Zb8.kids {L:List Sym} {J:List Int} (hT:Trs L J) {p q:Nat} (hp:p<J.length) (hq:q<J.length) (h:J[p]=J[q]):Zb8 L J (p+1,Zj L J p,q+1):=
 ⟨_,_,hT.kids hp,by rw [h];exact hT.kids hq⟩
def Zdu (J:List Int) (ld:Int->Int):Nat:=(List.range J.length).countP (λ p:Nat=>decide (ld (p:Int)=(p:Int)))
theorem Zdz {P Q:Nat->Bool} {l:List Nat} (h:∀ x∈l,P x=true->Q x=true):l.countP P<=l.countP Q:=List.countP_mono_left h
theorem Zib {P Q:Nat->Bool} {l:List Nat} (h:∀ x∈l,P x=true->Q x=true) {y:Nat} (hy:y∈l) (h1:Q y=true) (h2:P y=false):l.countP P<l.countP Q:=by
 induction l with
 | nil=>simp at hy
 | cons a r ih=>
  have ha:=h a (by simp);have hr:=Zdz (l:=r) (λ x hx=>h x (by simp [hx]));rw [List.countP_cons,List.countP_cons]
  rcases List.mem_cons.1 hy with e | e
  ·subst e;simp [h1,h2];omega
  ·have:=ih (λ x hx=>h x (by simp [hx])) e
   by_cases hP:P a=true
   ·simp [hP,ha hP];exact this
   ·simp [hP];split <;> omega
theorem Zs1 {J:List Int} {ld:Int->Int} {p q:Int} (hq:ld q=q) (hpq:p≠q) {x:Int} (h:un p q ld x=x):ld x=x:=by
 unfold un at h;split at h
 ·rename_i e;subst h;exact absurd (hq.symm.trans e).symm hpq
 ·exact h
theorem Jj {J:List Int} {ld:Int->Int} {p q:Int} (hq:ld q=q) (hpq:p≠q):Zdu J (un p q ld)<=Zdu J ld:=
 Zdz (λ x _ h=>by simp only [decide_eq_true_eq] at h ⊢;exact Zs1 (J:=J) hq hpq h)
theorem Zc2 {J:List Int} {ld:Int->Int} {p:Nat} {q:Int} (hq:ld q=q) (hpq:(p:Int)≠q) (hp:ld p=p) (hl:p<J.length):Zdu J (un p q ld)<Zdu J ld:=
 Zib (y:=p) (λ x _ h=>by simp only [decide_eq_true_eq] at h ⊢;exact Zs1 (J:=J) hq hpq h) (by simpa using hl) (by simpa using hp) (by unfold un;simp [hp];exact λ e=>hpq e.symm)
def Zhq:List (Nat × Nat × Nat)->Nat
 | []=>0
 | r :: t=>r.2.1-r.1+1+Zhq t
theorem Zm {J:List Int} {p:Nat} (h:p<J.length):Z0 J p:=by unfold Z0;omega
theorem Zv7 {L:List Sym} {J:List Int} (hT:Trs L J):∀ (n:Nat) (ld:Int->Int) (rs:List (Nat × Nat × Nat)),Zcl J ld->(∀ r∈rs,Zb8 L J r)->(J.length+1) * Zdu J ld+Zhq rs<n->∃ r,Ze9 L J n ld rs=some r∧∀ ld', r=some ld' -> Zcl J ld' := by
 intro n
 induction n with
 | zero=>intro ld rs _ _ h;omega
 | succ n ih=>
  intro ld rs hl hr hn;cases rs with
  | nil=>exact ⟨_,rfl,λ ld' e=>by cases e;exact hl⟩
  | cons r rs=>
   obtain ⟨x,y,o⟩:=r;have hr2:∀ r∈rs,Zb8 L J r:=λ r h=>hr r (by simp [h]);rw [Ze9];simp only [Zhq] at hn
   by_cases hxy:x<y
   ·rw [if_pos hxy]
    obtain ⟨s1,s2,s3,s4,s5,s6⟩:=(hr (x,y,o) (by simp)).step hxy
    have hr3:∀ r∈(Zj L J x,y,Zj L J o) :: rs,Zb8 L J r:=λ r h=>by
     rcases List.mem_cons.1 h with e | e
     ·rw [e];exact s6
     ·exact hr2 r e
    have px:=Zm (J:=J) (p:=x) (by omega);have po:=Zm (J:=J) (p:=o) s4;have hlx:=hl.idem _ px;have hlo:=hl.idem _ po;have hpx:=hl.part _ px;have hpo:=hl.part _ po
    by_cases h1:ld x=ld o
    ·rw [if_pos h1];exact ih ld _ hl hr3 (by simp only [Zhq];omega)
    ·rw [if_neg h1]
     have h1' : ld o≠ld x:=λ e=>h1 e.symm
     by_cases h2:ld x<0
     ·rw [if_pos h2]
      have:=Nat.mul_le_mul_left (J.length+1) (Jj (J:=J) (p:=ld x) hlo h1);exact ih _ _ (hl.un hlx hlo hpo h1 (hl.sym _ po) (λ f=>by omega)) hr3 (by simp only [Zhq];omega)
     ·rw [if_neg h2]
      by_cases h3:ld o<0
      ·rw [if_pos h3]
       have:=Nat.mul_le_mul_left (J.length+1) (Jj (J:=J) (p:=ld o) hlx h1');exact ih _ _ (hl.un hlo hlx hpx h1' (hl.sym _ px) (λ f=>by omega)) hr3 (by simp only [Zhq];omega)
      ·rw [if_neg h3]
       by_cases h4:at' J (ld x)≠at' J (ld o)
       ·rw [if_pos h4];exact ⟨_,rfl,λ ld' e=>by cases e⟩
       ·rw [if_neg h4]
        have h4:at' J (ld x)=at' J (ld o):=by simpa using h4
        obtain ⟨p,hp⟩:=Int.eq_ofNat_of_zero_le (Int.not_lt.1 h2);obtain ⟨q,hq⟩:=Int.eq_ofNat_of_zero_le (Int.not_lt.1 h3);have hpl:p<J.length:=by have:=hpx.2;omega
        have hql:q<J.length:=by have:=hpo.2;omega
        have hlt:=Zc2 (J:=J) (ld:=ld) (p:=p) (q:=ld o) hlo (by rw [<- hp];exact h1) (by rw [<- hp];exact hlx) hpl;rw [<- hp] at hlt;have:=Nat.mul_le_mul_left (J.length+1) (Nat.succ_le_of_lt hlt);rw [Nat.succ_eq_add_one,Nat.mul_add,Nat.mul_one] at this;have hpe:=hT.lt hpl;have e1:(ld x).toNat=p:=by omega
        have e2:(ld o).toNat=q:=by omega
        refine ih _ _ (hl.un hlx hlo hpo h1 (hl.sym _ po) (λ _=>⟨by omega,h4.symm⟩)) ?_ ?_
        ·intro r h
         rcases List.mem_cons.1 h with e | e
         ·rw [e,e1,e2]
          rw [hp,hq,Yl J p hpl,Yl J q hql] at h4;exact Zb8.kids hT hpl hql h4
         ·exact hr3 r e
        ·simp only [Zhq,e1];omega
   ·rw [if_neg hxy]
    exact ih ld rs hl hr2 (by omega)
structure UOk (L:List Sym) (J:List Int) (res:Option (Int->Int)) (k:Nat) (ld:Int->Int) (rs:List (Nat × Nat × Nat)):Prop where
 trs:Trs L J
 ok:Zcl J ld
 runs:∀ r∈rs,Zb8 L J r
 eq:Ze9 L J k ld rs=some res
 len:rs.length+Zdu J ld<=J.length+1
theorem UOk.nil {L:List Sym} {J:List Int} {res:Option (Int->Int)} {k:Nat} {ld:Int->Int} (h:UOk L J res k ld []):res=some ld:=by
 have:=h.eq;cases k with
 | zero=>simp [Ze9] at this
 | succ k=>simp [Ze9] at this;exact this.symm
theorem UOk.pop {L:List Sym} {J:List Int} {res:Option (Int->Int)} {k:Nat} {ld:Int->Int} {x y o:Nat} {rs:List (Nat × Nat × Nat)} (h:UOk L J res k ld ((x,y,o) :: rs)) (hxy:¬ x<y):∃ k', k=k' + 1∧UOk L J res k' ld rs:=by
 have:=h.eq;cases k with
 | zero=>simp [Ze9] at this
 | succ k=>
  rw [Ze9,if_neg hxy] at this;exact ⟨k,rfl,h.trs,h.ok,λ r hr=>h.runs r (by simp [hr]),this,by have:=h.len;simp at this;omega⟩
theorem UOk.top {L:List Sym} {J:List Int} {res:Option (Int->Int)} {k:Nat} {ld:Int->Int} {x y o:Nat} {rs:List (Nat × Nat × Nat)} (h:UOk L J res k ld ((x,y,o) :: rs)) (hxy:x<y):x<J.length∧o<J.length∧Zj L J x<=J.length∧Zj L J o<=J.length∧Z0 J (ld x)∧Z0 J (ld o)∧ld (ld x)=ld x∧ld (ld o)=ld o∧(∀ r∈(Zj L J x,y,Zj L J o) :: rs,Zb8 L J r):=by
 obtain ⟨s1,s2,s3,s4,s5,s6⟩:=(h.runs (x,y,o) (by simp)).step hxy;have px:=Zm (J:=J) (p:=x) (by omega);have po:=Zm (J:=J) (p:=o) s4;refine ⟨by omega,s4,by omega,(h.trs.lt s4).2,h.ok.part _ px,h.ok.part _ po,h.ok.idem _ px,h.ok.idem _ po,λ r hr=>?_⟩
 rcases List.mem_cons.1 hr with e | e
 ·rw [e];exact s6
 ·exact h.runs r (by simp [e])
theorem UOk.step {L:List Sym} {J:List Int} {res:Option (Int->Int)} {k:Nat} {ld:Int->Int} {x y o:Nat} {rs:List (Nat × Nat × Nat)} (h:UOk L J res k ld ((x,y,o) :: rs)) (hxy:x<y):∃ k', k=k' + 1 ∧
  (ld x=ld o->UOk L J res k' ld ((Zj L J x,y,Zj L J o) :: rs)) ∧
  (ld x≠ld o->ld x<0->UOk L J res k' (un (ld x) (ld o) ld) ((Zj L J x,y,Zj L J o) :: rs)) ∧
  (ld x≠ld o->¬ ld x<0->ld o<0->UOk L J res k' (un (ld o) (ld x) ld) ((Zj L J x,y,Zj L J o) :: rs)) ∧
  (ld x≠ld o->¬ ld x<0->¬ ld o<0->at' J (ld x)≠at' J (ld o)->res=none) ∧
  (ld x≠ld o->¬ ld x<0->¬ ld o<0->at' J (ld x)=at' J (ld o)->UOk L J res k' (un (ld x) (ld o) ld) (((ld x).toNat+1,Zj L J (ld x).toNat,(ld o).toNat+1) :: (Zj L J x,y,Zj L J o) :: rs)):=by
 have heq:=h.eq;have hlen:=h.len;obtain ⟨t1,t2,t3,t4,hpx,hpo,hlx,hlo,hr⟩:=h.top hxy;have px:=Zm (J:=J) (p:=x) t1;have po:=Zm (J:=J) (p:=o) t2;simp at hlen;cases k with
 | zero=>simp [Ze9] at heq
 | succ k=>
  rw [Ze9,if_pos hxy] at heq;refine ⟨k,rfl,?_,?_,?_,?_,?_⟩
  ·intro h1;rw [if_pos h1] at heq
   exact ⟨h.trs,h.ok,hr,heq,by simp;omega⟩
  ·intro h1 h2
   rw [if_neg h1,if_pos h2] at heq;have:=Jj (J:=J) (p:=ld x) hlo h1;exact ⟨h.trs,h.ok.un hlx hlo hpo h1 (h.ok.sym _ po) (λ f=>by omega),hr,heq,by simp;omega⟩
  ·intro h1 h2 h3
   have h1' : ld o≠ld x:=λ e=>h1 e.symm;rw [if_neg h1,if_neg h2,if_pos h3] at heq;have:=Jj (J:=J) (p:=ld o) hlx h1';exact ⟨h.trs,h.ok.un hlo hlx hpx h1' (h.ok.sym _ px) (λ f=>by omega),hr,heq,by simp;omega⟩
  ·intro h1 h2 h3 h4
   rw [if_neg h1,if_neg h2,if_neg h3,if_pos h4] at heq;simp at heq;exact heq.symm
  ·intro h1 h2 h3 h4
   rw [if_neg h1,if_neg h2,if_neg h3,if_neg (by simpa using h4)] at heq;obtain ⟨p,hp⟩:=Int.eq_ofNat_of_zero_le (Int.not_lt.1 h2);obtain ⟨q,hq⟩:=Int.eq_ofNat_of_zero_le (Int.not_lt.1 h3);have hpl:p<J.length:=by have:=hpx.2;omega
   have hql:q<J.length:=by have:=hpo.2;omega
   have hlt:=Zc2 (J:=J) (ld:=ld) (p:=p) (q:=ld o) hlo (by rw [<- hp];exact h1) (by rw [<- hp];exact hlx) hpl;rw [<- hp] at hlt;refine ⟨h.trs,h.ok.un hlx hlo hpo h1 (h.ok.sym _ po) (λ _=>⟨by omega,h4.symm⟩),?_,heq,by simp;omega⟩;intro r hr'
   rcases List.mem_cons.1 hr' with e | e
   ·rw [e,show (ld x).toNat=p by omega,show (ld o).toNat=q by omega]
    rw [hp,hq,Yl J p hpl,Yl J q hql] at h4;exact Zb8.kids h.trs hpl hql h4
   ·exact hr r e
theorem Zic (J:List Int) (ld:Int->Int):Zdu J ld<=J.length:=by
 have:=List.countP_le_length (p:=λ p:Nat=>decide (ld (p:Int)=(p:Int))) (l:=List.range J.length)
 simpa [Zdu] using this
end Go.Proofs.YtmjgnfkbnofjoaaGreatDoor
