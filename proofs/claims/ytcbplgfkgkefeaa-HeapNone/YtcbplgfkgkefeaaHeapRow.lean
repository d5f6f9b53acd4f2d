/- Rows of nodes, of a call's own; the walks of told, SameInts, SameNode. -/
import Derived.Test.YtcbplgfkgkefeaaHeapGrown
import Derived.Deep.AppendLies
namespace Go.Proofs.Ytcbplgfkgkefeaa
set_option maxRecDepth 100000
set_option linter.unusedVariables false
open Go.RowKit
attribute [local go_sem ↓] Go.wp_at_zero Go.wp_at_succ
/-- The cells of nodes. -/
def NCl (B : Nat → Prop) (w : World) (vs : List Value) (l : List Nd) : Prop :=
  vs.length = l.length * 5 ∧ ∀ i (h : i < l.length), ∃ ao ac, vs[i * 5]? = some (.int .i64 l[i].1) ∧ vs[i * 5 + 1]? = some (.slice ao l[i].2.1.length ac) ∧ vs[i * 5 + 2]? = some (.int .i64 l[i].2.2.1) ∧ vs[i * 5 + 3]? = some (.bool l[i].2.2.2.1) ∧ vs[i * 5 + 4]? = some (.int .i64 l[i].2.2.2.2) ∧ ArgT w ao l[i].2.1 ac ∧ ∀ a, ao = some a → B a.block
theorem NCl.nil (B : Nat → Prop) (w : World) : NCl B w [] [] := ⟨rfl, fun i h => absurd h (Nat.not_lt_zero _)⟩
theorem NCl.kept {B S : Nat → Prop} {w w' : World} {vs : List Value} {l : List Nd} (h : NCl B w vs l) (hk : Kept S w w') (hS : ∀ k, B k → S k → NotI w k) : NCl B w' vs l := by
  refine ⟨h.1, fun i hi => ?_⟩
  obtain ⟨ao, ac, h0, h1, h2, h3, h4, h5, h6⟩ := h.2 i hi
  refine ⟨ao, ac, h0, h1, h2, h3, h4, h5.kept' hk (fun a e s => ?_), h6⟩
  obtain ⟨cur, hc⟩ := h5.2 a e
  exact hS _ (h6 a e) s cur hc
theorem NCl.mono {B B' : Nat → Prop} {w : World} {vs : List Value} {l : List Nd} (h : NCl B w vs l) (hB : ∀ k, k < w.heap.size → B k → B' k) : NCl B' w vs l := by
  refine ⟨h.1, fun i hi => ?_⟩
  obtain ⟨ao, ac, h0, h1, h2, h3, h4, h5, h6⟩ := h.2 i hi
  exact ⟨ao, ac, h0, h1, h2, h3, h4, h5, fun a e => hB _ (h5.lt e) (h6 a e)⟩
theorem NCl.same {B : Nat → Prop} {w w' : World} {vs : List Value} {l : List Nd} (h : NCl B w vs l) (hk : Same0 w w') : NCl B w' vs l := h.kept hk (fun _ _ f => f.elim)
theorem NCl.snoc {B : Nat → Prop} {w : World} {vs : List Value} {l : List Nd} (h : NCl B w vs l) {x : Nd} {ao : Option Addr} {ac : Nat} (ha : ArgT w ao x.2.1 ac) (hb : ∀ a, ao = some a → B a.block) : NCl B w (vs ++ [.int .i64 x.1, .slice ao x.2.1.length ac, .int .i64 x.2.2.1, .bool x.2.2.2.1, .int .i64 x.2.2.2.2]) (l ++ [x]) := by
  refine ⟨by simp [h.1]; omega, fun i hi => ?_⟩
  by_cases e : i < l.length
  · rw [List.getElem_append_left e]
    obtain ⟨ao, ac, h0, h1, h2, h3, h4, h5, h6⟩ := h.2 i e
    have hl := h.1
    exact ⟨ao, ac, by rw [List.getElem?_append_left (by omega)]; exact h0, by rw [List.getElem?_append_left (by omega)]; exact h1, by rw [List.getElem?_append_left (by omega)]; exact h2, by rw [List.getElem?_append_left (by omega)]; exact h3, by rw [List.getElem?_append_left (by omega)]; exact h4, h5, h6⟩
  · obtain rfl : i = l.length := by simp at hi; omega
    have hl := h.1
    have t : ∀ j, (vs ++ [.int .i64 x.1, .slice ao x.2.1.length ac, .int .i64 x.2.2.1, .bool x.2.2.2.1, .int .i64 x.2.2.2.2])[l.length * 5 + j]? = [Value.int .i64 x.1, .slice ao x.2.1.length ac, .int .i64 x.2.2.1, .bool x.2.2.2.1, .int .i64 x.2.2.2.2][j]? := fun j => by
      rw [List.getElem?_append_right (by omega), hl, Nat.add_sub_cancel_left]
    simp only [List.getElem_append_right (Nat.le_refl _), Nat.sub_self, List.getElem_cons_zero]
    exact ⟨ao, ac, t 0, t 1, t 2, t 3, t 4, ha, hb⟩
/-- A row of nodes of a call's own. -/
def NRow (B : Nat → Prop) (base : Nat) (w : World) (v : Value) (l : List Nd) : Prop := ∃ vs, w.ownsRow base 45 5 v l.length vs ∧ NCl B w vs l
theorem NRow.nil (B : Nat → Prop) (base : Nat) (w : World) : NRow B base w (.slice none 0 0) [] := ⟨[], World.ownsRow_nil _ _ _ _, NCl.nil B w⟩
theorem NRow.kept {B S : Nat → Prop} {base : Nat} {w w' : World} {v : Value} {l : List Nd} (h : NRow B base w v l) (hk : Kept S w w') (hn : ∀ k, v.ownBlock = some k → ¬ S k) (hS : ∀ k, B k → S k → NotI w k) : NRow B base w' v l := by
  obtain ⟨vs, h1, h2⟩ := h
  exact ⟨vs, hk.row h1 hn, h2.kept hk hS⟩
theorem NRow.same {B : Nat → Prop} {base : Nat} {w w' : World} {v : Value} {l : List Nd} (h : NRow B base w v l) (hk : Same0 w w') : NRow B base w' v l := h.kept hk (fun _ _ f => f) (fun _ _ f => f.elim)
theorem NRow.shape {B : Nat → Prop} {base : Nat} {w : World} {v : Value} {l : List Nd} (h : NRow B base w v l) : ∃ ao cap, v = .slice ao l.length cap := by
  obtain ⟨vs, h1, _⟩ := h
  exact row_shape h1
theorem NRow.block {B : Nat → Prop} {base : Nat} {w : World} {v : Value} {l : List Nd} (h : NRow B base w v l) {k : Nat} (e : v.ownBlock = some k) : base ≤ k ∧ k < w.heap.size ∧ NotI w k := by
  obtain ⟨vs, h1, _⟩ := h
  rcases h1.2 with ⟨rfl, _⟩ | ⟨g, cap, cur, rfl, hb, hg, _⟩
  · cases e
  · obtain rfl : g = k := Option.some.inj e
    exact ⟨hb, lt_of_at hg, fun c hc => by rw [hg] at hc; cases hc⟩
/-- Nodes in memory, wherever. -/
def NsM (B : Nat → Prop) (w : World) (ao : Option Addr) (l : List Nd) : Prop := l = [] ∨ ∃ b off, ao = some ⟨b, off, none⟩ ∧ b < w.heap.size ∧ ∀ i (hi : i < l.length), NdC B w b (off + i * 5) l[i]
theorem NsM.same {B : Nat → Prop} {w w' : World} {ao : Option Addr} {l : List Nd} (h : NsM B w ao l) (hk : Same0 w w') : NsM B w' ao l := by
  refine h.imp id ?_
  rintro ⟨b, off, rfl, hlt, hc⟩
  exact ⟨b, off, rfl, Nat.lt_of_lt_of_le hlt hk.size, fun i hi => (hc i hi).kept hlt hk (fun f => f) (fun _ _ f => f.elim)⟩
theorem NRow.mem {B : Nat → Prop} {base : Nat} {w : World} {ao : Option Addr} {cap : Nat} {l : List Nd} (h : NRow B base w (.slice ao l.length cap) l) : NsM B w ao l := by
  obtain ⟨vs, h1, h2⟩ := h
  by_cases e : l = []
  · exact .inl e
  · have h1' := h1
    rcases h1.2 with ⟨q, h0⟩ | ⟨g, cap', cur, q, hb, hg, _⟩
    · exact absurd (List.eq_nil_of_length_eq_zero h0) e
    · cases q
      refine .inr ⟨g, 0, rfl, lt_of_at hg, fun i hi => ?_⟩
      obtain ⟨ao, ac, g0, g1, g2, g3, g4, g5, g6⟩ := h2.2 i hi
      have t : ∀ j u, vs[j]? = some u → w.cell? ⟨g, j, none⟩ = some u := fun j u hj => by
        have := h1'.cells (g := g) rfl j u hj
        by_cases q : j = 0
        · subst q; simpa [Addr.add] using this
        · simpa [Addr.add, q] using this
      rw [Nat.zero_add]
      exact ⟨ao, ac, t _ _ g0, t _ _ g1, t _ _ g2, t _ _ g3, t _ _ g4, g5, g6⟩
/-- append of one node to a row of the call's own. -/
theorem wpList_nd {w0 W : World} {ops : Array Oper} {rest : List Oper} {o : Oper} {a : Act} {Q : Exit → Act → World → Prop} (hgd : o.guard = none) (s x : Operand)
    (ho : o.op = .call { callee := .builtin .append, args := #[s, x], argTypes := #[32, 32] })
    {B : Nat → Prop} (base : Nat) (l : List Nd) (v : Value) (hs : a.eval s = v) (hW : Same0 w0 W) (hr : NRow B base w0 v l) (y : Nd) (ao : Option Addr) (ac : Nat) (q : Nat) (hx : a.eval x = .slice (some ⟨q, 0, none⟩) 1 1) (hq : W.heap[q]? = some (.cells #[.int .i64 y.1, .slice ao y.2.1.length ac, .int .i64 y.2.2.1, .bool y.2.2.2.1, .int .i64 y.2.2.2.2] 45 (0, 0))) (ha : ArgT w0 ao y.2.1 ac) (hba : ∀ b, ao = some b → B b.block) (hb : base ≤ w0.heap.size) (hsz : l.length ≤ 1000000)
    (h : ∀ g cap w', NRow B base w' (.slice (some ⟨g, 0, none⟩) (l.length + 1) cap) (l ++ [y]) → Kept (fun k => v.ownBlock = some k) w0 w' → (v.ownBlock = some g ∨ W.heap.size ≤ g) → wpList Try.prog ops Q rest (a.put o.dst (.slice (some ⟨g, 0, none⟩) (l.length + 1) cap)) w') :
    wpList Try.prog ops Q (o :: rest) a W := by
  obtain ⟨i, hi, hz0, hz1, hz2⟩ := info_parts info_node
  obtain ⟨vs, h1, h2⟩ := hr
  have nb : ∀ k, v.ownBlock = some k → NotI w0 k := fun k e => (NRow.block ⟨vs, h1, h2⟩ e).2.2
  refine wpList_append_lies _ hgd s x 32 ho base 45 i _ 5 56 Try.underlying32 hi hz0 hz1 hz2 rfl (by decide) v l.length vs hs (hW.row h1 (fun _ _ f => f)) ⟨q, 0, none⟩ 1 1 [.int .i64 y.1, .slice ao y.2.1.length ac, .int .i64 y.2.2.1, .bool y.2.2.2.1, .int .i64 y.2.2.2.2] hx rfl (World.news_of_block (cs := #[.int .i64 y.1, .slice ao y.2.1.length ac, .int .i64 y.2.2.1, .bool y.2.2.2.1, .int .i64 y.2.2.2.2]) (t := 45) (fr := (0, 0)) hq) (by intro u hu; simp at hu; rcases hu with rfl | rfl | rfl | rfl | rfl <;> rfl) (by omega) (by unfold maxLen; omega) (by omega) (Nat.le_trans hb hW.size) W.heap.size rfl ?_
  intro g cap w' hown hgrow hat hlt
  have K : Kept (fun k => v.ownBlock = some k) w0 w' := Kept.grown (Kept.mono hW (fun _ _ f => f.elim)) hgrow (fun _ e _ => e)
  refine h g cap w' ⟨_, by rw [List.length_append]; exact hown, ?_⟩ K (hat.imp id (fun e => by omega))
  exact (h2.kept K (fun k _ e => nb k e)).snoc (ha.kept K (fun k e => nb k e)) hba
/-- The box in which a node lies that came out. -/
theorem box_node' (w : World) (x : Nd) (ao : Option Addr) (ac : Nat) {ww : World} (hk : Same0 (w.alloc (.cells #[.int .i64 x.1, .slice ao x.2.1.length ac, .int .i64 x.2.2.1, .bool x.2.2.2.1, .int .i64 x.2.2.2.2] 45)) ww) :
    ww.cell? ⟨w.heap.size, 0, none⟩ = some (.int .i64 x.1) ∧ ww.cell? ⟨w.heap.size, 1, none⟩ = some (.slice ao x.2.1.length ac) ∧ ww.cell? ⟨w.heap.size, 2, none⟩ = some (.int .i64 x.2.2.1) ∧ ww.cell? ⟨w.heap.size, 3, none⟩ = some (.bool x.2.2.2.1) ∧ ww.cell? ⟨w.heap.size, 4, none⟩ = some (.int .i64 x.2.2.2.2) :=
  box5 (hk.at0 (heap_alloc_new w _))
theorem heap_at_node (w : World) (x : Nd) (ao : Option Addr) (ac : Nat) : (w.alloc (.cells #[.int .i64 x.1, .slice ao x.2.1.length ac, .int .i64 x.2.2.1, .bool x.2.2.2.1, .int .i64 x.2.2.2.2] 45)).heap[w.heap.size]? = some (.cells #[.int .i64 x.1, .slice ao x.2.1.length ac, .int .i64 x.2.2.1, .bool x.2.2.2.1, .int .i64 x.2.2.2.2] 45 (0, 0)) := heap_alloc_new w _
theorem NRow.onto {B : Nat → Prop} {w w0 w' : World} {v : Value} {l : List Nd} (h : Same0 w w0) (hr : NRow B w.heap.size w0 v l) (hk : Kept (fun k => v.ownBlock = some k) w0 w') : Same0 w w' :=
  h.trans hk (fun i hi e => by have := (hr.block e).1; omega)
set_option maxHeartbeats 1000000 in
theorem told_any {w : World} {h g room : Nat} {l : List Nd} (p : Hp w h g room l) :
    Calls Try.prog 17 #[.pointer (some ⟨h, 0, none⟩)] w fun e w' => ∃ v, e = .returned (.tuple #[v, .bool true]) ∧ NRow (fun b => w.heap.size ≤ b) w.heap.size w' v l ∧ Same0 w w' := by
  have hle := p.le
  have hr2 := p.rm2
  have HP : Hid (∀ ww, Same0 w ww → Hp ww h g room l) := fun ww hk => p.same hk
  have KR : Same0 w w := Kept.refl _ _
  clear p
  go_enter Try.func17, Try.ntmps17
  go_wp2
  go_loopw [4, 5] (fun v i wr => ∃ (k : Nat), i = .int .i64 (k : Int) ∧ k ≤ l.length ∧ NRow (fun b => w.heap.size ≤ b) w.heap.size wr v (l.take k) ∧ Same0 w wr) (fun _ i _ => l.length - (intOf i).toNat)
  case atStart => exact ⟨0, rfl, Nat.zero_le _, NRow.nil _ _ _, KR⟩
  case round =>
    clear KR
    obtain ⟨k, rfl, hk, hrow, hw⟩ := hrel
    have pr := HP.out wr hw
    have CU := used_any pr
    obtain ⟨vo, vc, rfl⟩ := hrow.shape
    have hlk : (l.take k).length = k := by simp; omega
    rw [hlk] at hrow
    by_cases hlt : k < l.length
    · have j1 : (k : Int) < (l.length : Int) := by omega
      have j2 : (k : Int) < 4000 := by omega
      have C1 := hat_yes pr k hlt
      have HT : Hid (l.take (k + 1) = l.take k ++ [l[k]]) := List.take_succ_eq_append_getElem hlt
      have HLK : Hid ((l.take k).length = k) := hlk
      rw [hlk]
      clear pr hlk
      go_upto_region 8 with (first | (go_at_call 18; refine CU.mono ?_; rintro e w3 ⟨rfl, h3⟩; have h3 := h3.symm; subst h3) | (go_at_call 21; refine C1.mono ?_; rintro e w3 ⟨bo, bc, rfl, ha, hbb, k3⟩))
      obtain ⟨W3, hW3⟩ : ∃ W3, W3 = w3.alloc (.cells #[.int .i64 l[k].1, .slice bo l[k].2.1.length bc, .int .i64 l[k].2.2.1, .bool l[k].2.2.2.1, .int .i64 l[k].2.2.2.2] 45) := ⟨_, rfl⟩
      have kk : Same0 w3 W3 := by rw [hW3]; exact (Kept.refl _ _).alloc _
      have K3 : Same0 wr W3 := k3.trans' kk
      obtain ⟨x0, x1, x2, x3, x4⟩ := box_node' w3 l[k] bo bc (show Same0 _ W3 by rw [hW3]; exact Kept.refl _ _)
      have ha3 := ha.same kk
      have hr3 := hrow.same K3
      have hsz : w.heap.size ≤ W3.heap.size := (hw.trans' K3).size
      have hbb' : ∀ b, bo = some b → w.heap.size ≤ b.block := fun b e => Nat.le_trans hw.size (hbb b e)
      have kW := (Kept.refl (fun _ => False) W3).alloc (.cells #[.int .i64 l[k].1, .slice bo l[k].2.1.length bc, .int .i64 l[k].2.2.1, .bool l[k].2.2.2.1, .int .i64 l[k].2.2.2.2] 45)
      have hq := heap_at_node W3 l[k] bo bc
      have HKK : Hid (∀ ww, Kept (fun i => (Value.slice vo k vc).ownBlock = some i) W3 ww → Same0 w ww) := fun ww hk => NRow.onto (hw.trans' K3) hr3 hk
      rw [← hW3]
      clear hW3 C1 CU k3 ha hrow hbb kk
      go_wp2_with (first | (at_builtin; refine wpList_nd rfl _ _ rfl w.heap.size (l.take k) _ rfl kW hr3 l[k] bo bc _ rfl hq ha3 hbb' hsz (by rw [HLK.out]; omega) ?_; rw [HLK.out]; intro g4 cap4 w4 hr4 hk4 hor))
      have hr5 : NRow (fun b => w.heap.size ≤ b) w.heap.size w4 (.slice (some ⟨g4, 0, none⟩) (k + 1) cap4) (l.take (k + 1)) := by rw [HT.out]; exact hr4
      have hk5 : Same0 w w4 := HKK.out w4 hk4
      go_roundw
      case rel => first | exact ⟨k + 1, by go_num, by omega, hr5, hk5⟩ | ((repeat apply Exists.intro); exact ⟨⟨k + 1, by go_num, by omega, hr5, hk5⟩, rfl⟩)
      case measure => simp [intOf]; omega
    · obtain rfl : k = l.length := by omega
      rw [List.take_length] at *
      clear hlk pr
      go_wp2_with (first | (go_at_call 18; refine CU.mono ?_; rintro e w3 ⟨rfl, h3⟩; have h3 := h3.symm; subst h3))
      go_ret2
      exact ⟨_, rfl, hrow, hw⟩
end Go.Proofs.Ytcbplgfkgkefeaa
