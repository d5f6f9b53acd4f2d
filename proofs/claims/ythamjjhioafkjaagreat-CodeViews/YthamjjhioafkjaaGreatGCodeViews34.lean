import Derived.Test.YthamjjhioafkjaaGreatGCodeViews33
import Derived.Test.YthamjjhioafkjaaGreatGCodeViews08
import Derived.Test.YthamjjhioafkjaaGreatGCodeViews12
import Derived.Test.YthamjjhioafkjaaGreatGCodeViews32
import Derived.Test.YthamjjhioafkjaaGreatGCodeViews25
namespace Go.Proofs.YthamjjhioafkjaaGreat
set_option maxRecDepth 100000
set_option linter.unusedVariables false
open Go.RowKit
attribute [local go_sem ↓] Go.wp_at_zero Go.wp_at_succ
theorem kept_at (w : World) (b o : Nat) (u : Value) : Kept (fun k => k = b) w (w.setCell ⟨b,o,none⟩ u) := Kept.setCell (p := ⟨b,o,none⟩) (Kept.refl (fun k => k = b) w) (fun _ => rfl) u
def Lsts (w : World) (b n : Nat) (f : Nat → Value) : Prop := ∃ cs, w.heap[b]? = some (.cells cs 23 (0, 0)) ∧ cs.size = n ∧ ∀ i, i < n → cs[i]? = some (f i)
theorem Lsts.kept {S : Nat → Prop} {w w' : World} {b n : Nat} {f : Nat → Value} (h : Lsts w b n f) (hk : Kept S w w') (hs : ¬ S b) : Lsts w' b n f := by
  obtain ⟨cs, h1, h2, h3⟩ := h
  exact ⟨cs, hk.at h1 hs, h2, h3⟩
theorem Lsts.cell {w : World} {b n : Nat} {f : Nat → Value} (h : Lsts w b n f) {i : Nat} (hi : i < n) : w.cell? ⟨b,i,none⟩ = some (f i) ∧ w.frozen? ⟨b,i,none⟩ = false := by
  obtain ⟨cs, h1, h2, h3⟩ := h
  exact ⟨(cellAt h1 i).trans (h3 i hi), frozenAt h1 i⟩
theorem Lsts.set {w : World} {b n : Nat} {f : Nat → Value} (h : Lsts w b n f) (i : Nat) (v : Value) : Lsts (w.setCell ⟨b,i,none⟩ v) b n (fun k => if k = i then v else f k) := by
  obtain ⟨cs, h1, h2, h3⟩ := h
  refine ⟨cs.setIfInBounds i v, setAt h1 i v, by simp [h2], fun k hk => ?_⟩
  by_cases e : k = i
  · subst e; simp [h2, hk]
  · simp only [if_neg e]; rw [Array.getElem?_setIfInBounds_ne (fun q => e q.symm)]; exact h3 k hk
theorem Lsts.congr {w : World} {b n : Nat} {f g : Nat → Value} (h : Lsts w b n f) (e : ∀ i,i < n → f i = g i) : Lsts w b n g := by
  obtain ⟨cs, h1, h2, h3⟩ := h
  exact ⟨cs, h1, h2, fun i hi => by rw [← e i hi]; exact h3 i hi⟩
theorem Lsts.lt {w : World} {b n : Nat} {f : Nat → Value} (h : Lsts w b n f) : b < w.heap.size := by
  obtain ⟨cs, h1, _⟩ := h
  exact lt_of_at h1
theorem made_slices (n i : Nat) (h : i < n) : (madeCells #[Value.slice none 0 0] n)[i]? = some (.slice none 0 0) := by
  rw [← Array.getElem?_toList, toList_madeCells_one]; simp [h]
def AOut (L : List Sym) (T : List Int) (w0 : World) (gA gE k : Nat) (wr : World) : Prop :=
  Same0 w0 wr ∧ gA ≠ gE ∧ w0.heap.size ≤ gA ∧ w0.heap.size ≤ gE ∧ ∃ (en : Nat → Int) (f : Nat → Value), Nums wr gE T.length en ∧ Lsts wr gA T.length f ∧ (∀ q, k ≤ q → q < T.length → en q = (endN L T q : Int)) ∧ (∀ q, q < k → f q = .slice none 0 0) ∧
    ∀ q, k ≤ q → q < T.length → ∃ ao ac, f q = .slice ao (argsN L T q).length ac ∧ IntsAt wr ao (ofN (argsN L T q)) ∧ ∀ a, ao = some a → a.block ≠ gE ∧ a.block ≠ gA ∧ w0.heap.size ≤ a.block
def AIn (L : List Sym) (T : List Int) (w0 : World) (gA gE p : Nat) (en : Nat → Int) (f : Nat → Value) (j : Nat) (wr : World) : Prop :=
  Kept (fun k => k = gE ∨ k = gA) w0 wr ∧ Nums wr gE T.length (fun q => if q = p then (past L T j (p + 1) : Int) else en q) ∧ ∃ vo vc, Lsts wr gA T.length (fun q => if q = p then .slice vo j vc else f q) ∧ wr.ownsRow w0.heap.size 3 1 (.slice vo j vc) j (iv (ofN (starts L T j (p + 1))))
theorem AOut.same {L : List Sym} {T : List Int} {w0 : World} {gA gE k : Nat} {wr w' : World} (h : AOut L T w0 gA gE k wr) (hk : Same0 wr w') : AOut L T w0 gA gE k w' := by
  obtain ⟨h0, h1, h2, h3, en, f, h4, h5, h6, h7, h8⟩ := h
  refine ⟨h0.trans' hk, h1, h2, h3, en, f, h4.kept hk (fun f => f), h5.kept hk (fun f => f), h6, h7, fun q a b => ?_⟩
  obtain ⟨ao, ac, x, y, z⟩ := h8 q a b
  exact ⟨ao, ac, x, y.same hk, z⟩
theorem AIn.done {L : List Sym} {T : List Int} {w0 wp wr : World} {gA gE p : Nat} (hT : IsT L T) (hp : p < T.length) (h0 : Same0 w0 wp) (hg : gA ≠ gE) (hA : w0.heap.size ≤ gA) (hE : w0.heap.size ≤ gE) {en : Nat → Int} {f : Nat → Value} (h6 : ∀ q,p + 1 ≤ q → q < T.length → en q = (endN L T q : Int)) (h7 : ∀ q,q < p + 1 → f q = .slice none 0 0)
    (h8 : ∀ q, p + 1 ≤ q → q < T.length → ∃ ao ac, f q = .slice ao (argsN L T q).length ac ∧ IntsAt wp ao (ofN (argsN L T q)) ∧ ∀ a, ao = some a → a.block ≠ gE ∧ a.block ≠ gA ∧ w0.heap.size ≤ a.block) (hlA : gA < wp.heap.size) (hlE : gE < wp.heap.size) (h : AIn L T wp gA gE p en f (arN L T[p]) wr) : AOut L T w0 gA gE p wr := by
  obtain ⟨k1, h2, vo, vc, h3, h4⟩ := h
  have hf := (Forest.one hT hp).kids.2
  have hpast := hf.past
  have hS : Same0 w0 wr := Kept.trans h0 k1 (fun i hi e => by rcases e with e | e <;> omega)
  refine ⟨hS, hg, hA, hE, _, _, h2, h3, fun q a b => ?_, fun q a => ?_, fun q a b => ?_⟩
  · by_cases e : q = p
    · subst e; rw [if_pos rfl, hpast]
    · rw [if_neg e]; exact h6 q (by omega) b
  · rw [if_neg (by omega)]; exact h7 q (by omega)
  · by_cases e : q = p
    · subst e
      have hN : argsN L T q = starts L T (arN L T[q]) (q + 1) := argsN_eq hp
      have hlen : (argsN L T q).length = arN L T[q] := by rw [hN, starts_length]
      refine ⟨vo, vc, by rw [if_pos rfl, hlen], ?_, fun a e => ?_⟩
      · rw [hN]
        rcases h4.2 with ⟨e1, e2⟩ | ⟨g, cap, cur, e1, e2, e3, _⟩
        · have : (starts L T (arN L T[q]) (q + 1)).length = 0 := by rw [starts_length]; exact e2
          rw [List.eq_nil_of_length_eq_zero this]
          exact .inl rfl
        · simp only [Value.slice.injEq] at e1
          obtain ⟨rfl, _, rfl⟩ := e1
          refine .inr ⟨g, 0, rfl, lt_of_at e3, fun i hi => ?_⟩
          have hc := h4.cells (g := g) rfl i (.int .i64 (ofN (starts L T (arN L T[q]) (q + 1)))[i]) (iv_get hi)
          rw [addr_add] at hc
          exact hc
      · rcases h4.2 with ⟨e1, e2⟩ | ⟨g, cap, cur, e1, e2, e3, _⟩
        · simp only [Value.slice.injEq] at e1
          obtain ⟨rfl, _, _⟩ := e1
          cases e
        · simp only [Value.slice.injEq] at e1
          obtain ⟨rfl, _, rfl⟩ := e1
          cases e
          have := h0.size
          refine ⟨fun q => ?_, fun q => ?_, ?_⟩
          · simp at q; omega
          · simp at q; omega
          · simp; omega
    · obtain ⟨ao, ac, x, y, z⟩ := h8 q (by omega) b
      refine ⟨ao, ac, by rw [if_neg e]; exact x, y.kept k1 (fun a e => ?_), z⟩
      obtain ⟨z1, z2, _⟩ := z a e
      rintro (q | q) <;> contradiction
end Go.Proofs.YthamjjhioafkjaaGreat
namespace Go.Proofs.YthamjjhioafkjaaGreat
set_option maxRecDepth 100000
set_option linter.unusedVariables false
open Go.RowKit
attribute [local go_sem ↓] Go.wp_at_zero Go.wp_at_succ
theorem m_arg (v : Value) (w : World) : (Go.method 426 70 v "Arg").run Tryz.prog w = .ok (30, v) w := by kernel_rfl
theorem m_head (v : Value) (w : World) : (Go.method 426 70 v "Head").run Tryz.prog w = .ok (28, v) w := by kernel_rfl
set_option maxHeartbeats 2000000 in
theorem cask_none {p0 p1 p2 p3 : Nat} (w : World) :
    CallsD Tryz.prog 156 #[.pointer (some ⟨p0, 0, none⟩), .pointer (some ⟨p1, 0, none⟩), .pointer (some ⟨p2, 0, none⟩), .pointer (some ⟨p3, 0, none⟩)] .returning w fun e u' w' => e = .returned (.tuple #[]) ∧ u' = .returning ∧ w' = w := by
  have hne := any_nil
  refine callsD_of_wpS Tryz.func156 rfl fun c₀ cs hu => ?_
  apply wpS_seq
  apply wpS_region
  simp [wpOpsS, go_sem, recoverD, hu, Tryz.ntmps156, Exit.thenS]
  apply wpS_of_wp
  go_wp2_with fail
  simp [go_sem, bodyPostS, results, Tryz.results156]
  cases c₀
  simp only at hu
  subst hu
  rfl
theorem five_new (w : World) (o0 o1 o2 o3 o4 : Obj) : Same0 w (((((w.alloc o0).alloc o1).alloc o2).alloc o3).alloc o4) ∧ (((((w.alloc o0).alloc o1).alloc o2).alloc o3).alloc o4).heap[w.heap.size]? = some o0 ∧ (((((w.alloc o0).alloc o1).alloc o2).alloc o3).alloc o4).heap[w.heap.size + 1]? = some o1 ∧ (((((w.alloc o0).alloc o1).alloc o2).alloc o3).alloc o4).heap[w.heap.size + 1 + 1]? = some o2 ∧ (((((w.alloc o0).alloc o1).alloc o2).alloc o3).alloc o4).heap[w.heap.size + 1 + 1 + 1]? = some o3 ∧ (((((w.alloc o0).alloc o1).alloc o2).alloc o3).alloc o4).heap[w.heap.size + 1 + 1 + 1 + 1]? = some o4 := by
  obtain ⟨A, hA⟩ : ∃ A, A = w.alloc o0 := ⟨_, rfl⟩
  obtain ⟨B, hB⟩ : ∃ B, B = A.alloc o1 := ⟨_, rfl⟩
  obtain ⟨C, hC⟩ : ∃ C, C = B.alloc o2 := ⟨_, rfl⟩
  obtain ⟨D, hD⟩ : ∃ D, D = C.alloc o3 := ⟨_, rfl⟩
  have a0 : A.heap[w.heap.size]? = some o0 := by rw [hA]; exact heap_alloc_new _ _
  have a1 : B.heap[A.heap.size]? = some o1 := by rw [hB]; exact heap_alloc_new _ _
  have a2 : C.heap[B.heap.size]? = some o2 := by rw [hC]; exact heap_alloc_new _ _
  have a3 : D.heap[C.heap.size]? = some o3 := by rw [hD]; exact heap_alloc_new _ _
  have a4 : (D.alloc o4).heap[D.heap.size]? = some o4 := heap_alloc_new _ _
  have kA : Same0 w A := by rw [hA]; exact (Kept.refl _ _).alloc _
  have kB : Same0 A B := by rw [hB]; exact (Kept.refl _ _).alloc _
  have kC : Same0 B C := by rw [hC]; exact (Kept.refl _ _).alloc _
  have kD : Same0 C D := by rw [hD]; exact (Kept.refl _ _).alloc _
  have kE : Same0 D (D.alloc o4) := (Kept.refl _ _).alloc _
  have sA : A.heap.size = w.heap.size + 1 := by rw [hA]; simp
  have sB : B.heap.size = w.heap.size + 1 + 1 := by rw [hB]; simp [sA]
  have sC : C.heap.size = w.heap.size + 1 + 1 + 1 := by rw [hC]; simp [sB]
  have sD : D.heap.size = w.heap.size + 1 + 1 + 1 + 1 := by rw [hD]; simp [sC]
  rw [sA] at a1
  rw [sB] at a2
  rw [sC] at a3
  rw [sD] at a4
  rw [← hA, ← hB, ← hC, ← hD]
  exact ⟨(((kA.trans' kB).trans' kC).trans' kD).trans' kE, kE.at0 (kD.at0 (kC.at0 (kB.at0 a0))), kE.at0 (kD.at0 (kC.at0 a1)), kE.at0 (kD.at0 a2), kE.at0 a3, a4⟩
structure AskB (w : World) (n : Nat) (cs : Array Value) (x y : Int) (wr : World) : Prop where
  same : Same0 w wr
  le : w.heap.size ≤ n
  bx : wr.heap[n]? = some (.cells cs 140 (0, 0))
  b1 : wr.heap[n + 1]? = some (.cells #[.int .i64 x] 3 (0, 0))
  b2 : wr.heap[n + 1 + 1]? = some (.cells #[.int .i64 y] 3 (0, 0))
  b3 : wr.heap[n + 1 + 1 + 1]? = some (.cells #[.bool false] 4 (0, 0))
  b4 : wr.heap[n + 1 + 1 + 1 + 1]? = some (.cells #[.int .i64 0] 58 (0, 0))
theorem AskB.up {w : World} {n : Nat} {cs : Array Value} {x y : Int} {wr w' : World} (h : AskB w n cs x y wr) (hk : Same0 wr w') : AskB w n cs x y w' :=
  ⟨h.same.trans' hk, h.le, hk.at0 h.bx, hk.at0 h.b1, hk.at0 h.b2, hk.at0 h.b3, hk.at0 h.b4⟩
theorem AskB.setx {w : World} {n : Nat} {cs : Array Value} {x y : Int} {wr : World} (h : AskB w n cs x y wr) (z : Int) : AskB w n cs z y (wr.setCell ⟨n + 1,0,none⟩ (.int .i64 z)) := by
  have k := kept_at wr (n + 1) 0 (.int .i64 z)
  have hle := h.le
  exact ⟨Kept.trans h.same k (fun i hi e => by omega), h.le, k.at h.bx (fun e => by omega), setAt h.b1 0 _, k.at h.b2 (fun e => by omega), k.at h.b3 (fun e => by omega), k.at h.b4 (fun e => by omega)⟩
theorem AskB.sety {w : World} {n : Nat} {cs : Array Value} {x y : Int} {wr : World} (h : AskB w n cs x y wr) (z : Int) : AskB w n cs x z (wr.setCell ⟨n + 1 + 1,0,none⟩ (.int .i64 z)) := by
  have k := kept_at wr (n + 1 + 1) 0 (.int .i64 z)
  have hle := h.le
  exact ⟨Kept.trans h.same k (fun i hi e => by omega), h.le, k.at h.bx (fun e => by omega), k.at h.b1 (fun e => by omega), setAt h.b2 0 _, k.at h.b3 (fun e => by omega), k.at h.b4 (fun e => by omega)⟩
theorem AskB.setb {w : World} {n : Nat} {cs : Array Value} {x y : Int} {wr : World} (h : AskB w n cs x y wr) : AskB w n cs x y (wr.setCell ⟨n + 1 + 1 + 1,0,none⟩ (.bool false)) := by
  have k := kept_at wr (n + 1 + 1 + 1) 0 (.bool false)
  have hle := h.le
  exact ⟨Kept.trans h.same k (fun i hi e => by omega), h.le, k.at h.bx (fun e => by omega), k.at h.b1 (fun e => by omega), k.at h.b2 (fun e => by omega), setAt h.b3 0 _, k.at h.b4 (fun e => by omega)⟩
theorem AskB.sete {w : World} {n : Nat} {cs : Array Value} {x y : Int} {wr : World} (h : AskB w n cs x y wr) : AskB w n cs x y (wr.setCell ⟨n + 1 + 1 + 1 + 1,0,none⟩ (.int .i64 0)) := by
  have k := kept_at wr (n + 1 + 1 + 1 + 1) 0 (.int .i64 0)
  have hle := h.le
  exact ⟨Kept.trans h.same k (fun i hi e => by omega), h.le, k.at h.bx (fun e => by omega), k.at h.b1 (fun e => by omega), k.at h.b2 (fun e => by omega), k.at h.b3 (fun e => by omega), setAt h.b4 0 _⟩
theorem AskB.cells {w : World} {n : Nat} {cs : Array Value} {x y : Int} {wr : World} (h : AskB w n cs x y wr) : (wr.cell? ⟨n + 1,0,none⟩ = some (.int .i64 x) ∧ wr.cell? ⟨n + 1 + 1,0,none⟩ = some (.int .i64 y) ∧ wr.cell? ⟨n + 1 + 1 + 1,0,none⟩ = some (.bool false) ∧ wr.cell? ⟨n + 1 + 1 + 1 + 1,0,none⟩ = some (.int .i64 0)) ∧ wr.frozen? ⟨n + 1,0,none⟩ = false ∧ wr.frozen? ⟨n + 1 + 1,0,none⟩ = false ∧ wr.frozen? ⟨n + 1 + 1 + 1,0,none⟩ = false ∧ wr.frozen? ⟨n + 1 + 1 + 1 + 1,0,none⟩ = false :=
  ⟨⟨cellAt h.b1 0, cellAt h.b2 0, cellAt h.b3 0, cellAt h.b4 0⟩, frozenAt h.b1 0, frozenAt h.b2 0, frozenAt h.b3 0, frozenAt h.b4 0⟩
def wayI (L : List Sym) (ok : Bool) (T : List Int) (node : Int) (p : List Int) : Int := p.foldl (fun x n => argI L ok T x n) node
theorem wayI_take {L : List Sym} {ok : Bool} {T : List Int} {node : Int} {p : List Int} {k : Nat} (h : k < p.length) : wayI L ok T node (p.take (k + 1)) = argI L ok T (wayI L ok T node (p.take k)) p[k] := by
  have e : p.take (k + 1) = p.take k ++ [p[k]] := by rw [List.take_add_one, List.getElem?_eq_getElem h]; rfl
  unfold wayI
  rw [e, List.foldl_append]; rfl
set_option maxHeartbeats 16000000 in
theorem cask_any {base : Nat} {w : World} {L : List Sym} {ok : Bool} {T : List Int} {ho : Option Addr} {hn hc : Nat} {go : Option Addr} {gn gc : Nat} (hv : VwAt base w L ok T (.agg #[.slice ho hn hc,.slice go gn gc])) {po : Option Addr} {pc : Nat} {p : List Int} (hp : IntsAt w po p) (hm : p.length ≤ maxLen) (c0 c1 c2 c3 : Option Addr) (l0 l1 l2 l3 d0 d1 d2 d3 : Nat) (node : Int) :
    Calls Tryz.prog 125 #[.agg #[.slice c0 l0 d0,.slice c1 l1 d1,.slice c2 l2 d2,.slice c3 l3 d3,.iface 70 (.agg #[.slice ho hn hc,.slice go gn gc]),.int .i64 node],.slice po p.length pc] w fun e w' => e = .returned (.tuple #[.int .i64 (wayI L ok T node p),.int .i64 (headI ok T (wayI L ok T node p)),.bool false,.int .i64 0]) ∧ Same0 w w' := by
  have mA := m_arg
  have mH := m_head
  unfold maxLen at hm
  obtain ⟨W1, hW1⟩ : ∃ W1, W1 = ((((w.alloc (.cells #[.slice c0 l0 d0, .slice c1 l1 d1, .slice c2 l2 d2, .slice c3 l3 d3, .iface 70 (.agg #[.slice ho hn hc, .slice go gn gc]), .int .i64 node] 140)).alloc (.cells #[.int .i64 0] 3)).alloc (.cells #[.int .i64 0] 3)).alloc (.cells #[.bool false] 4)).alloc (.cells #[.int .i64 0] 58) := ⟨_, rfl⟩
  have A1 : AskB w w.heap.size #[.slice c0 l0 d0, .slice c1 l1 d1, .slice c2 l2 d2, .slice c3 l3 d3, .iface 70 (.agg #[.slice ho hn hc, .slice go gn gc]), .int .i64 node] 0 0 W1 := by
    obtain ⟨q0, q1, q2, q3, q4, q5⟩ := five_new w (.cells #[.slice c0 l0 d0, .slice c1 l1 d1, .slice c2 l2 d2, .slice c3 l3 d3, .iface 70 (.agg #[.slice ho hn hc, .slice go gn gc]), .int .i64 node] 140) (.cells #[.int .i64 0] 3) (.cells #[.int .i64 0] 3) (.cells #[.bool false] 4) (.cells #[.int .i64 0] 58)
    rw [← hW1] at q0 q1 q2 q3 q4 q5
    exact ⟨q0, Nat.le_refl _, q1, q2, q3, q4, q5⟩
  have HP : Hid (∀ ww k (hk : k < p.length), Same0 w ww → ∃ pb off, po = some ⟨pb, off, none⟩ ∧ ww.cell? ⟨pb, off + k, none⟩ = some (.int .i64 p[k])) := fun ww k hk hs => by
    obtain ⟨pb, off, e, _, hcc⟩ := (hp.same hs).get hk
    exact ⟨pb, off, e, hcc⟩
  have CA : Hid (∀ ww x z, Same0 w ww → Calls Tryz.prog 30 #[.agg #[.slice ho hn hc, .slice go gn gc], .int .i64 x, .int .i64 z] ww fun e w' => e = .returned (.int .i64 (argI L ok T x z)) ∧ Same0 ww w') := fun ww x z hk => arg_any (hv.same hk) x z
  have CH : Hid (∀ ww x, Same0 w ww → Calls Tryz.prog 28 #[.agg #[.slice ho hn hc, .slice go gn gc], .int .i64 x] ww fun e w' => e = .returned (.tuple #[.int .i64 (headI ok T x), .bool false]) ∧ Same0 ww w') := fun ww x hk => head_any (hv.same hk) x
  have BX : Hid (∀ x y ww, AskB w w.heap.size #[.slice c0 l0 d0, .slice c1 l1 d1, .slice c2 l2 d2, .slice c3 l3 d3, .iface 70 (.agg #[.slice ho hn hc, .slice go gn gc]), .int .i64 node] x y ww → ww.cell? ⟨w.heap.size, 4, none⟩ = some (.iface 70 (.agg #[.slice ho hn hc, .slice go gn gc])) ∧ ww.cell? ⟨w.heap.size, 5, none⟩ = some (.int .i64 node)) := fun x y ww h => ⟨cellAt h.bx 4, cellAt h.bx 5⟩
  obtain ⟨x4, x5⟩ := BX.out _ _ _ A1
  obtain ⟨⟨a1, a2, a3, a4⟩, f1, f2, f3, f4⟩ := A1.cells
  have H2 : Hid (AskB w w.heap.size #[.slice c0 l0 d0, .slice c1 l1 d1, .slice c2 l2 d2, .slice c3 l3 d3, .iface 70 (.agg #[.slice ho hn hc, .slice go gn gc]), .int .i64 node] (wayI L ok T node (p.take 0)) 0 (W1.setCell ⟨w.heap.size + 1, 0, none⟩ (.int .i64 node))) := A1.setx node
  clear hv hp A1
  go_enter_defers Tryz.func125, Tryz.ntmps125
  go_upto_region 1 with fail
  rw [← hW1]
  clear hW1
  go_upto_region 4 with fail
  go_loopw [15] (fun s15 wr => ∃ k : Nat, k ≤ p.length ∧ s15 = .int .i64 (k : Int) ∧ AskB w w.heap.size #[.slice c0 l0 d0, .slice c1 l1 d1, .slice c2 l2 d2, .slice c3 l3 d3, .iface 70 (.agg #[.slice ho hn hc, .slice go gn gc]), .int .i64 node] (wayI L ok T node (p.take k)) 0 wr) (fun s15 _ => p.length - (intOf s15).toNat)
  case atStart => exact ⟨0, Nat.zero_le _, rfl, H2.out⟩
  case round =>
    clear H2 x4 x5 a1 a2 a3 a4 f1 f2 f3 f4
    obtain ⟨k, hk, rfl, hA⟩ := hrel
    obtain ⟨x4, x5⟩ := BX.out _ _ _ hA
    obtain ⟨⟨a1, a2, a3, a4⟩, f1, f2, f3, f4⟩ := hA.cells
    by_cases hlt : k < p.length
    · obtain ⟨pb, off, rfl, hcl⟩ := HP.out wr k hlt hA.same
      have C := CA.out wr (wayI L ok T node (p.take k)) p[k] hA.same
      have NX : Hid (∀ ww, Same0 wr ww → (ww.cell? ⟨w.heap.size + 1, 0, none⟩ = some (.int .i64 (wayI L ok T node (p.take k))) ∧ ww.frozen? ⟨w.heap.size + 1, 0, none⟩ = false) ∧ AskB w w.heap.size #[.slice c0 l0 d0, .slice c1 l1 d1, .slice c2 l2 d2, .slice c3 l3 d3, .iface 70 (.agg #[.slice ho hn hc, .slice go gn gc]), .int .i64 node] (wayI L ok T node (p.take (k + 1))) 0 (ww.setCell ⟨w.heap.size + 1, 0, none⟩ (.int .i64 (argI L ok T (wayI L ok T node (p.take k)) p[k])))) := fun ww hs => by
        rw [wayI_take hlt]
        exact ⟨⟨(hA.up hs).cells.1.1, (hA.up hs).cells.2.1⟩, (hA.up hs).setx _⟩
      have i1 : (0 : Int) ≤ (k : Int) := by omega
      have i2 : (k : Int) < (p.length : Int) := by omega
      generalize argI L ok T (wayI L ok T node (p.take k)) p[k] = z at *
      generalize wayI L ok T node (p.take k) = y at *
      generalize p[k] = q at *
      clear hA CA CH HP BX
      go_wp2_with (first | (go_at_call 30; refine C.mono ?_; rintro e w2 ⟨rfl, k2⟩; obtain ⟨⟨m0, m1⟩, m2⟩ := NX.out w2 k2))
      go_roundw
      case rel => first | exact ⟨k + 1, by omega, by go_num, m2⟩ | ((repeat apply Exists.intro); exact ⟨⟨k + 1, by omega, by go_num, m2⟩, rfl⟩)
      case measure => simp [intOf]; omega
    · obtain rfl : k = p.length := by omega
      rw [List.take_of_length_le (Nat.le_refl _)] at hA a1
      have C := CH.out wr (wayI L ok T node p) hA.same
      have NX : Hid (∀ ww, Same0 wr ww → AskB w w.heap.size #[.slice c0 l0 d0, .slice c1 l1 d1, .slice c2 l2 d2, .slice c3 l3 d3, .iface 70 (.agg #[.slice ho hn hc, .slice go gn gc]), .int .i64 node] (wayI L ok T node p) 0 ww) := fun ww hs => hA.up hs
      obtain ⟨y, hy⟩ : ∃ y, y = wayI L ok T node p := ⟨_, rfl⟩
      obtain ⟨z, hz⟩ : ∃ z, z = headI ok T (wayI L ok T node p) := ⟨_, rfl⟩
      have HYZ : Hid (y = wayI L ok T node p ∧ z = headI ok T (wayI L ok T node p)) := ⟨hy, hz⟩
      rw [← hz, ← hy] at C
      rw [← hy] at NX a1
      clear hy hz
      clear hA CA CH HP BX
      go_upto_region 9 with (first | (go_at_call 28; refine C.mono ?_; rintro e w2 ⟨rfl, k2⟩; have n0 := NX.out w2 k2; obtain ⟨⟨b1, b2, b3, b4⟩, g1, g2, g3, g4⟩ := n0.cells; obtain ⟨⟨e1, e2, e3, e4⟩, h1, h2, h3, h4⟩ := (n0.sety z).cells))
      have n3 := (n0.sety z).setb
      obtain ⟨w3, hw3⟩ : ∃ w3, w3 = (w2.setCell ⟨w.heap.size + 1 + 1, 0, none⟩ (.int .i64 z)).setCell ⟨w.heap.size + 1 + 1 + 1, 0, none⟩ (.bool false) := ⟨_, rfl⟩
      rw [← hw3] at n3 ⊢
      clear hw3 n0 b1 b2 b3 b4 g1 g2 g3 g4 e1 e2 e3 e4 h1 h2 h3 h4 x4 x5 a1 a2 a3 a4 f1 f2 f3 f4 NX k2 C
      obtain ⟨⟨a1, a2, a3, a4⟩, f1, f2, f3, f4⟩ := n3.cells
      obtain ⟨⟨b1, b2, b3, b4⟩, g1, g2, g3, g4⟩ := (n3.setx y).cells
      obtain ⟨⟨c1', c2', c3', c4'⟩, i1, i2, i3, i4⟩ := ((n3.setx y).sety z).cells
      obtain ⟨⟨e1, e2, e3, e4⟩, h1, h2, h3, h4⟩ := (((n3.setx y).sety z).setb).cells
      have nf := (((n3.setx y).sety z).setb).sete
      have NF : Hid _ := nf
      clear nf n3
      go_region
      all_goals
        go_wp2_with fail
        refine leaves_cons (f := 156) (args := #[.pointer (some ⟨w.heap.size + 1, 0, none⟩), .pointer (some ⟨w.heap.size + 1 + 1, 0, none⟩), .pointer (some ⟨w.heap.size + 1 + 1 + 1, 0, none⟩), .pointer (some ⟨w.heap.size + 1 + 1 + 1 + 1, 0, none⟩)]) (by simp) (by simp [go_sem]) ?_
        refine (cask_none _).mono ?_
        rintro e u' w'' ⟨rfl, rfl, rfl⟩
        have nn := NF.out.up (Kept.drew (Kept.refl _ _))
        obtain ⟨⟨r1, r2, r3, r4⟩, _⟩ := nn.cells
        simp [Leaves, settle, results, Tryz.results125, go_sem, r1, r2, r3, r4]
        exact ⟨HYZ.out, nn.same⟩
end Go.Proofs.YthamjjhioafkjaaGreat
namespace Go.Proofs.YthamjjhioafkjaaGreat
set_option linter.unusedVariables false
abbrev I3 := Int × Int × Int
abbrev St9 := List I3 × List (List Int)
def setB : List I3 → Nat → Int → List I3
  | [], _, _ => []
  | x :: r, 0, b => (x.1, x.2.1, b) :: r
  | x :: r, c + 1, b => x :: setB r c b
theorem setB_length : ∀ (I : List I3) (c : Nat) (b : Int),(setB I c b).length = I.length
  | [], _, _ => rfl
  | _ :: _, 0, _ => rfl
  | _ :: r, c + 1, b => by simp [setB, setB_length r c b]
def layK {α : Type} (f : α → St9 → St9) : List (Int × α) → Nat → St9 → St9
  | [], _, s => s
  | x :: r, c, s => layK f r (c + 1) (f x.2 (setB s.1 c (s.1.length : Int), s.2))
theorem layK_snoc {α : Type} (f : α → St9 → St9) : ∀ (l : List (Int × α)) (x : Int × α) (c : Nat) (s : St9),layK f (l ++ [x]) c s = f x.2 (setB (layK f l c s).1 (c + l.length) ((layK f l c s).1.length : Int),(layK f l c s).2)
  | [], x, c, s => by simp [layK]
  | y :: r, x, c, s => by
    rw [List.cons_append, layK, layK_snoc f r x (c + 1), List.length_cons]
    simp only [layK]
    rw [show c + 1 + r.length = c + (r.length + 1) by omega]
def headS (p : List Int) (ks : List Int) (s : St9) : St9 := (s.1 ++ [(1, (s.2.length : Int), 0)] ++ ks.map (fun k => ((2, k, 0) : I3)) ++ [(3, 0, 0)], s.2 ++ [p])
def layS : (n : Nat) → Tr n → St9 → St9
  | 0, _, s => s
  | n + 1, (k, r, p, l), s =>
    if k = 1 then (s.1 ++ [(4, r, 0)], s.2)
    else if k = 2 then layK (layS n) l (s.1.length + 1) (headS p (l.map (fun x => x.1)) s)
    else (s.1 ++ [(3, 0, 0)], s.2)
def insN : (n : Nat) → Tr n → Nat
  | 0, _ => 0
  | n + 1, (k, r, p, l) => if k = 2 then 3 + l.length + sumN (l.map (fun x => insN n x.2)) else 1
theorem layK_len {α : Type} {f : α → St9 → St9} {g : α → Nat} : ∀ (l : List (Int × α)) (c : Nat) (s : St9),(∀ x ∈ l,∀ s,(f x.2 s).1.length + (f x.2 s).2.length ≤ s.1.length + s.2.length + g x.2 ∧ s.1.length ≤ (f x.2 s).1.length ∧ s.2.length ≤ (f x.2 s).2.length) → (layK f l c s).1.length + (layK f l c s).2.length ≤ s.1.length + s.2.length + sumN (l.map (fun x => g x.2)) ∧ s.1.length ≤ (layK f l c s).1.length ∧ s.2.length ≤ (layK f l c s).2.length
  | [], c, s, _ => by simp [layK, sumN]
  | x :: r, c, s, h => by
    obtain ⟨a1, a2, a3⟩ := h x (List.mem_cons_self ..) (setB s.1 c (s.1.length : Int), s.2)
    obtain ⟨b1, b2, b3⟩ := layK_len (g := g) r (c + 1) (f x.2 (setB s.1 c (s.1.length : Int), s.2)) (fun y hy => h y (List.mem_cons_of_mem _ hy))
    simp only [setB_length] at a1 a2 a3
    simp only [layK, List.map_cons, sumN]
    omega
theorem layS_eq {n : Nat} (k r : Int) (p : List Int) (l : List (Int × Tr n)) (s : St9) : layS (n + 1) (k,r,p,l) s = if k = 1 then (s.1 ++ [(4,r,0)],s.2) else if k = 2 then layK (layS n) l (s.1.length + 1) (headS p (l.map (fun x => x.1)) s) else (s.1 ++ [(3,0,0)],s.2) := rfl
theorem insN_eq {n : Nat} (k r : Int) (p : List Int) (l : List (Int × Tr n)) : insN (n + 1) (k,r,p,l) = if k = 2 then 3 + l.length + sumN (l.map (fun x => insN n x.2)) else 1 := rfl
theorem layS_len : ∀ (n : Nat) (t : Tr n) (s : St9),(layS n t s).1.length + (layS n t s).2.length ≤ s.1.length + s.2.length + insN n t ∧ s.1.length ≤ (layS n t s).1.length ∧ s.2.length ≤ (layS n t s).2.length
  | 0, _, s => by simp [layS, insN]
  | n + 1, (k, r, p, l), s => by
    rw [layS_eq, insN_eq]
    by_cases h1 : k = 1
    · rw [if_pos h1, if_neg (by omega)]; simp; omega
    · rw [if_neg h1]
      by_cases h2 : k = 2
      · rw [if_pos h2, if_pos h2]
        obtain ⟨a, b, c⟩ := layK_len (f := layS n) (g := insN n) l (s.1.length + 1) (headS p (l.map (fun x => x.1)) s) (fun x _ s => layS_len n x.2 s)
        have e1 : (headS p (l.map (fun x => x.1)) s).1.length = s.1.length + 1 + l.length + 1 := by simp [headS]; omega
        have e2 : (headS p (l.map (fun x => x.1)) s).2.length = s.2.length + 1 := by simp [headS]
        rw [e1, e2] at a
        rw [e1] at b
        rw [e2] at c
        omega
      · rw [if_neg h2, if_neg h2]; simp; omega
theorem layS_leaf {n : Nat} {k r : Int} {p : List Int} {l : List (Int × Tr n)} (h : k = 1) (s : St9) : layS (n + 1) (k,r,p,l) s = (s.1 ++ [(4,r,0)],s.2) := by
  rw [layS_eq, if_pos h]
theorem layS_branch {n : Nat} {k r : Int} {p : List Int} {l : List (Int × Tr n)} (h : k = 2) (s : St9) : layS (n + 1) (k,r,p,l) s = layK (layS n) l (s.1.length + 1) (headS p (l.map (fun x => x.1)) s) := by
  rw [layS_eq, if_neg (by omega), if_pos h]
theorem layS_fail {n : Nat} {k r : Int} {p : List Int} {l : List (Int × Tr n)} (h1 : ¬ k = 1) (h2 : ¬ k = 2) (s : St9) : layS (n + 1) (k,r,p,l) s = (s.1 ++ [(3,0,0)],s.2) := by
  rw [layS_eq, if_neg h1, if_neg h2]
def flat3 (I : List I3) : List Int := I.flatMap (fun x => [x.1, x.2.1, x.2.2])
theorem flat3_append (a b : List I3) : flat3 (a ++ b) = flat3 a ++ flat3 b := by simp [flat3]
theorem flat3_at : ∀ (I : List I3) (i : Nat) (h : i < I.length),(flat3 I)[i * 3]? = some I[i].1 ∧ (flat3 I)[i * 3 + 1]? = some I[i].2.1 ∧ (flat3 I)[i * 3 + 2]? = some I[i].2.2
  | x :: r, 0, h => ⟨rfl, rfl, rfl⟩
  | x :: r, i + 1, h => by
    have e : flat3 (x :: r) = x.1 :: x.2.1 :: x.2.2 :: flat3 r := rfl
    have := flat3_at r i (by simpa using h)
    rw [e, show (i + 1) * 3 = i * 3 + 1 + 1 + 1 by omega, show i * 3 + 1 + 1 + 1 + 1 = (i * 3 + 1) + 1 + 1 + 1 by omega, show i * 3 + 1 + 1 + 1 + 2 = (i * 3 + 2) + 1 + 1 + 1 by omega]
    simpa using this
theorem flat3_setB : ∀ (I : List I3) (c : Nat) (b : Int),flat3 (setB I c b) = (flat3 I).set (c * 3 + 2) b
  | [], _, _ => by simp [setB, flat3]
  | x :: r, 0, b => rfl
  | x :: r, c + 1, b => by
    have e : ∀ (x : I3) r, flat3 (x :: r) = x.1 :: x.2.1 :: x.2.2 :: flat3 r := fun _ _ => rfl
    rw [setB, e, e, flat3_setB r c b, show (c + 1) * 3 + 2 = (c * 3 + 2) + 1 + 1 + 1 by omega]
    rfl
end Go.Proofs.YthamjjhioafkjaaGreat
namespace Go.Proofs.YthamjjhioafkjaaGreat
set_option maxRecDepth 100000
set_option linter.unusedVariables false
open Go.RowKit
attribute [local go_sem ↓] Go.wp_at_zero Go.wp_at_succ
def caseG : List I3 → Nat → Int → Nat × Bool
  | [], i, _ => (i, false)
  | x :: r, i, s => if x.1 = 2 then (if x.2.1 = s then (i, true) else caseG r (i + 1) s) else (i, false)
def caseF (I : List I3) (s : Int) (a : Nat) : Nat × Bool := caseG (I.drop a) a s
theorem caseF_step {I : List I3} {s : Int} {a : Nat} (h : a < I.length) : caseF I s a = if I[a].1 = 2 then (if I[a].2.1 = s then (a,true) else caseF I s (a + 1)) else (a,false) := by
  unfold caseF
  rw [List.drop_eq_getElem_cons h, caseG]
theorem caseF_end {I : List I3} {s : Int} {a : Nat} (h : I.length ≤ a) : caseF I s a = (a,false) := by
  unfold caseF
  rw [List.drop_eq_nil_of_le h, caseG]
theorem caseG_le : ∀ (l : List I3) (i : Nat) (s : Int),i ≤ (caseG l i s).1 ∧ (caseG l i s).1 ≤ i + l.length ∧ ((caseG l i s).2 = true → (caseG l i s).1 < i + l.length)
  | [], i, s => by simp [caseG]
  | x :: r, i, s => by
    unfold caseG
    split
    · split
      · simp
      · obtain ⟨a, b, c⟩ := caseG_le r (i + 1) s
        refine ⟨by omega, by simp only [List.length_cons]; omega, fun h => ?_⟩
        have := c h
        simp only [List.length_cons]; omega
    · simp
theorem caseF_le {I : List I3} {s : Int} {a : Nat} (h : a ≤ I.length) : a ≤ (caseF I s a).1 ∧ (caseF I s a).1 ≤ I.length ∧ ((caseF I s a).2 = true → (caseF I s a).1 < I.length) := by
  obtain ⟨x, y, z⟩ := caseG_le (I.drop a) a s
  rw [List.length_drop] at y z
  refine ⟨x, by unfold caseF; omega, fun q => ?_⟩
  have := z q
  unfold caseF; omega
def hasB (E : List Int) (n : Int) : Bool := idxB n E.length && decide (0 ≤ E.getD n.toNat (-1))
abbrev R5 := Int × Int × List Int × Int × Int
def bad5 : R5 := (0, 0, [], 0, 92)
def lookF (L : List Sym) (ok : Bool) (T : List Int) (I : List I3) (E : List Int) (node : Int) (a : Nat) (p : List Int) : R5 ⊕ Int :=
  if (caseF I (headI ok T (wayI L ok T node p)) (a + 1)).2 = true then
    (if (I.getD (caseF I (headI ok T (wayI L ok T node p)) (a + 1)).1 (0, 0, 0)).2.2 ≤ ((caseF I (headI ok T (wayI L ok T node p)) (a + 1)).1 : Int) then .inl bad5 else .inr (I.getD (caseF I (headI ok T (wayI L ok T node p)) (a + 1)).1 (0, 0, 0)).2.2)
  else if hasB E (headI ok T (wayI L ok T node p)) = true then .inl (3, 0, p, wayI L ok T node p, 0) else .inr ((caseF I (headI ok T (wayI L ok T node p)) (a + 1)).1 : Int)
def runF (L : List Sym) (ok : Bool) (T : List Int) (I : List I3) (P : List (List Int)) (E : List Int) (node : Int) : Nat → Nat → R5
  | 0, _ => bad5
  | f + 1, a => match I[a]? with
    | none => bad5
    | some x => if x.1 = 4 then (1, x.2.1, [], 0, 0) else if x.1 = 3 then (2, 0, [], 0, 0)
      else if x.1 = 1 ∧ idxB x.2.1 P.length = true then (match lookF L ok T I E node a (P.getD x.2.1.toNat []) with
        | .inl r => r
        | .inr z => runF L ok T I P E node f z.toNat)
      else bad5
theorem lookF_gt {L : List Sym} {ok : Bool} {T : List Int} {I : List I3} {E : List Int} {node : Int} {a : Nat} {p : List Int} (h : a < I.length) {z : Int} (hz : lookF L ok T I E node a p = .inr z) : (a : Int) < z := by
  unfold lookF at hz
  obtain ⟨x, _, _⟩ := caseF_le (I := I) (s := headI ok T (wayI L ok T node p)) (a := a + 1) (by omega)
  split at hz
  · split at hz
    · cases hz
    · cases hz; omega
  · split at hz
    · cases hz
    · cases hz; omega
theorem runF_more {L : List Sym} {ok : Bool} {T : List Int} {I : List I3} {P : List (List Int)} {E : List Int} {node : Int} : ∀ (f g a : Nat),I.length < a + f → f ≤ g → runF L ok T I P E node f a = runF L ok T I P E node g a
  | 0, g, a, h, hg => by
    cases g with
    | zero => rfl
    | succ g =>
      rw [runF, runF, List.getElem?_eq_none (by omega)]
  | f + 1, 0, a, h, hg => by omega
  | f + 1, g + 1, a, h, hg => by
    rw [runF, runF]
    cases hi : I[a]? with
    | none => rfl
    | some x =>
      have ha : a < I.length := by
        rcases Nat.lt_or_ge a I.length with q | q
        · exact q
        · rw [List.getElem?_eq_none q] at hi; cases hi
      simp only
      split
      · rfl
      · split
        · rfl
        · split
          · cases hl : lookF L ok T I E node a (P.getD x.2.1.toNat []) with
            | inl r => rfl
            | inr z =>
              have := lookF_gt ha hl
              exact runF_more f g z.toNat (by omega) (by omega)
          · rfl
def codeF (L : List Sym) (ok : Bool) (T : List Int) (I : List I3) (P : List (List Int)) (E : List Int) (n node : Int) : R5 :=
  if hasB E n = true then runF L ok T I P E node (I.length + 1) (E.getD n.toNat (-1)).toNat else (0, 0, [], 0, 90)
def InsAt (w : World) (io : Option Addr) (I : List I3) : Prop :=
  I = [] ∨ ∃ b off, io = some ⟨b, off, none⟩ ∧ b < w.heap.size ∧ ∀ i (h : i < I.length), w.cell? ⟨b, off + i * 3, none⟩ = some (.int .i64 I[i].1) ∧ w.cell? ⟨b, off + i * 3 + 1, none⟩ = some (.int .i64 I[i].2.1) ∧ w.cell? ⟨b, off + i * 3 + 2, none⟩ = some (.int .i64 I[i].2.2)
theorem InsAt.same {w w' : World} {io : Option Addr} {I : List I3} (h : InsAt w io I) (hk : Same0 w w') : InsAt w' io I := by
  refine h.imp id ?_
  rintro ⟨b, off, e, hb, hc⟩
  refine ⟨b, off, e, Nat.lt_of_lt_of_le hb hk.size, fun i hi => ?_⟩
  obtain ⟨c0, c1, c2⟩ := hc i hi
  exact ⟨(hk.cell (p := ⟨b, off + i * 3, none⟩) hb (fun f => f)).trans c0, (hk.cell (p := ⟨b, off + i * 3 + 1, none⟩) hb (fun f => f)).trans c1, (hk.cell (p := ⟨b, off + i * 3 + 2, none⟩) hb (fun f => f)).trans c2⟩
theorem InsAt.get {w : World} {io : Option Addr} {I : List I3} (h : InsAt w io I) {i : Nat} (hi : i < I.length) : ∃ b off,io = some ⟨b,off,none⟩ ∧ b < w.heap.size ∧ w.cell? ⟨b,off + i * 3,none⟩ = some (.int .i64 I[i].1) ∧ w.cell? ⟨b,off + i * 3 + 1,none⟩ = some (.int .i64 I[i].2.1) ∧ w.cell? ⟨b,off + i * 3 + 2,none⟩ = some (.int .i64 I[i].2.2) := by
  rcases h with rfl | ⟨b, off, e, hb, hc⟩
  · simp at hi
  · exact ⟨b, off, e, hb, hc i hi⟩
def PthAt (w : World) (po : Option Addr) (P : List (List Int)) : Prop :=
  P = [] ∨ ∃ b off, po = some ⟨b, off, none⟩ ∧ b < w.heap.size ∧ ∀ i (h : i < P.length), ∃ ao ac, w.cell? ⟨b, off + i, none⟩ = some (.slice ao P[i].length ac) ∧ Arg w ao P[i] ac
theorem PthAt.same {w w' : World} {po : Option Addr} {P : List (List Int)} (h : PthAt w po P) (hk : Same0 w w') : PthAt w' po P := by
  refine h.imp id ?_
  rintro ⟨b, off, e, hb, hc⟩
  refine ⟨b, off, e, Nat.lt_of_lt_of_le hb hk.size, fun i hi => ?_⟩
  obtain ⟨ao, ac, c0, c1⟩ := hc i hi
  exact ⟨ao, ac, (hk.cell (p := ⟨b, off + i, none⟩) hb (fun f => f)).trans c0, c1.same hk⟩
theorem PthAt.get {w : World} {po : Option Addr} {P : List (List Int)} (h : PthAt w po P) {i : Nat} (hi : i < P.length) : ∃ b off ao ac,po = some ⟨b,off,none⟩ ∧ b < w.heap.size ∧ w.cell? ⟨b,off + i,none⟩ = some (.slice ao P[i].length ac) ∧ Arg w ao P[i] ac := by
  rcases h with rfl | ⟨b, off, e, hb, hc⟩
  · simp at hi
  · obtain ⟨ao, ac, c0, c1⟩ := hc i hi
    exact ⟨b, off, ao, ac, e, hb, c0, c1⟩
def FndOut (w : World) (R : R5) (e : Ending) (w' : World) : Prop :=
  ∃ qo qc, e = .returned (.tuple #[.agg #[.int .i64 R.1, .int .i64 R.2.1, .slice qo R.2.2.1.length qc, .int .i64 R.2.2.2.1], .int .i64 R.2.2.2.2]) ∧ Row w.heap.size w' (.slice qo R.2.2.1.length qc) R.2.2.1 ∧ Same0 w w'
set_option maxHeartbeats 2000000 in
theorem chas_any {w : World} {eo : Option Addr} {E : List Int} (hE : IntsAt w eo E) (io po ro : Option Addr) (il ic pl pc ec rl rc : Nat) (n : Int) :
    Calls Tryz.prog 57 #[.agg #[.slice io il ic,.slice po pl pc,.slice eo E.length ec,.slice ro rl rc],.int .i64 n] w fun e w' => e = .returned (.bool (hasB E n)) ∧ Same0 w w' := by
  have CI := isIndex_any n E.length
  have ka : Same0 w (w.alloc (.cells #[.slice io il ic, .slice po pl pc, .slice eo E.length ec, .slice ro rl rc] 45)) := (Kept.refl _ w).alloc _
  cases hi : idxB n E.length with
  | false =>
    rw [hi] at CI
    have H : Hid (hasB E n = false) := by show _ = _; simp [hasB, hi]
    clear hi hE
    go_enter Tryz.func57, Tryz.ntmps57
    go_wp2_with (first | (go_at_call 49; refine (CI _).mono ?_; rintro e w2 ⟨rfl, rfl⟩))
    go_ret
    exact ⟨by rw [H.out]; rfl, ka⟩
  | true =>
    rw [hi] at CI
    obtain ⟨i, rfl, hl⟩ := idx_yes hi
    have H : Hid (hasB E (i : Int) = decide (0 ≤ E[i])) := by
      show _ = _
      simp [hasB, hi, hl]
    obtain ⟨b, off, rfl, hb, hcell⟩ := (hE.same ka).get hl
    have i1 : (0 : Int) ≤ (i : Int) := by omega
    have i2 : (i : Int) < (E.length : Int) := by omega
    clear hi hE
    generalize E[i] = z at *
    go_enter Tryz.func57, Tryz.ntmps57
    go_wp2_with (first | (go_at_call 49; refine (CI _).mono ?_; rintro e w2 ⟨rfl, rfl⟩))
    go_ret
    exact ⟨by rw [H.out]; rfl, ka⟩
set_option maxHeartbeats 4000000 in
theorem ccase_any {w : World} {io : Option Addr} {I : List I3} (hI : InsAt w io I) (hl : I.length ≤ 140737488355328) (ic : Nat) (po eo ro : Option Addr) (pl pc el ec rl rc : Nat) (v : Value) (node s : Int) (a : Nat) (ha : a ≤ I.length) :
    Calls Tryz.prog 126 #[.agg #[.slice io I.length ic,.slice po pl pc,.slice eo el ec,.slice ro rl rc,.iface 70 v,.int .i64 node],.int .i64 s,.int .i64 (a : Int)] w fun e w' => e = .returned (.tuple #[.int .i64 ((caseF I s a).1 : Int),.bool (caseF I s a).2]) ∧ Same0 w w' := by
  obtain ⟨W1, hW1⟩ : ∃ W1, W1 = w.alloc (.cells #[.slice io I.length ic, .slice po pl pc, .slice eo el ec, .slice ro rl rc, .iface 70 v, .int .i64 node] 140) := ⟨_, rfl⟩
  have ka : Same0 w W1 := by rw [hW1]; exact (Kept.refl _ w).alloc _
  have hbx : W1.heap[w.heap.size]? = some (.cells #[.slice io I.length ic, .slice po pl pc, .slice eo el ec, .slice ro rl rc, .iface 70 v, .int .i64 node] 140 (0, 0)) := by rw [hW1]; exact heap_alloc_new _ _
  have x0 := cellAt hbx 0
  simp only [List.getElem?_toArray, List.getElem?_cons_zero] at x0
  have hI1 := hI.same ka
  clear hI hbx
  go_enter Tryz.func126, Tryz.ntmps126
  go_upto_region 1 with fail
  rw [← hW1]
  clear hW1
  go_loop [2] (fun s2 => ∃ k : Nat, k ≤ I.length ∧ s2 = .int .i64 (k : Int) ∧ Hid (caseF I s a = caseF I s k)) (fun s2 => I.length - (intOf s2).toNat)
  case atStart => exact ⟨a, ha, rfl, rfl⟩
  case round =>
    clear ha
    obtain ⟨k, hk, rfl, hF⟩ := hrel
    by_cases hlt : k < I.length
    · obtain ⟨b, off, rfl, hb, c0, c1, c2⟩ := hI1.get hlt
      have i1 : (0 : Int) ≤ (k : Int) := by omega
      have i2 : (k : Int) < (I.length : Int) := by omega
      by_cases ho : I[k].1 = 2
      · rw [ho] at c0
        by_cases hs : I[k].2.1 = s
        · have H : Hid (caseF I s a = (k, true)) := by rw [hF.out]; show _ = _; rw [caseF_step hlt, if_pos ho, if_pos hs]
          rw [hs] at c1
          clear hF ho hs
          go_wp2_with fail
          go_ret2
          exact ⟨by rw [H.out]; rfl, ka⟩
        · have H : Hid (caseF I s a = caseF I s (k + 1)) := by rw [hF.out]; show _ = _; rw [caseF_step hlt, if_pos ho, if_neg hs]
          have hs' : (I[k].2.1 == s) = false := by simpa using hs
          generalize I[k].2.1 = z at *
          clear hF ho hs
          go_wp2_with fail
          exact ⟨⟨k + 1, by omega, by go_num, H⟩, by simp [intOf]; omega⟩
      · have H : Hid (caseF I s a = (k, false)) := by rw [hF.out]; show _ = _; rw [caseF_step hlt, if_neg ho]
        have ho' : (I[k].1 == 2) = false := by simpa using ho
        generalize I[k].1 = z at *
        clear hF ho
        go_wp2_with fail
        go_ret2
        exact ⟨by rw [H.out]; rfl, ka⟩
    · have H : Hid (caseF I s a = (k, false)) := by rw [hF.out]; exact caseF_end (by omega)
      clear hF
      go_wp2_with fail
      go_ret2
      exact ⟨by rw [H.out]; rfl, ka⟩
end Go.Proofs.YthamjjhioafkjaaGreat
