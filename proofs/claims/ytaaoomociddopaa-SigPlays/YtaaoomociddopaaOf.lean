/- The walk of Of: the numbers of the defined symbols, or of the others, in new memory. -/
import Derived.Test.YtaaoomociddopaaAll
namespace Go.Proofs.Ytaaoomociddopaa
open Go.RowKit Go.Shelf
attribute [local go_sem] Oper.semAt_some
/-- None, or a signature whose memory lies below n₀. -/
def Seqs (w : World) (n₀ : Nat) (p : Option Addr) (L : List Sym) : Prop :=
  (p = none ∧ L = []) ∨ ∃ b sv mr, p = some ⟨b, 0, none⟩ ∧ SigAt w b L sv mr ∧ ∀ k, Foot b sv mr k → k < n₀
theorem Seqs.below {w w' : World} {n₀ : Nat} {p : Option Addr} {L : List Sym} (h : Seqs w n₀ p L) (hb : Below n₀ w w') : Seqs w' n₀ p L :=
  h.imp id (fun ⟨b, sv, mr, e, hs, hf⟩ => ⟨b, sv, mr, e, hs.below hb hf, hf⟩)
theorem Seqs.len {w : World} {n₀ : Nat} {p : Option Addr} {L : List Sym} (h : Seqs w n₀ p L) : L.length ≤ 64 := by
  rcases h with ⟨_, rfl⟩ | ⟨_, _, _, _, hs, _⟩
  · simp
  · exact hs.len
theorem seq_stops (F : Fence) (n : Nat) (h37 : F.fn 37) (hro : F.round = none) (hn : 1 ≤ n) (Bn n₀ : Nat) (p : Option Addr) (L : List Sym) (w : World) (hBn : Bn < w.heap.size) (hn₀ : n₀ ≤ w.heap.size)
    (hc : w.cell? ⟨Bn, 0, none⟩ = some (.pointer p)) (h : Seqs w n₀ p L) :
    SeqStopsK F n Try.prog 37 #[.pointer (some ⟨Bn, 0, none⟩)] symE (Below n₀) (fun ys => ys = L.zipIdx) (fun pre => pre <+: L.zipIdx) L.length w := by
  rcases h with ⟨rfl, rfl⟩ | ⟨b, sv, mr, rfl, hs, hf⟩
  · exact nil_stops F n h37 hro Bn n₀ w hBn hc
  · exact all_stops F n h37 hro hn Bn n₀ b L sv mr w hBn hn₀ hc hs hf
def ofB (d : Bool) (x : Sym × Nat) : Bool := x.1.df == d
def ofVals (d : Bool) (pre : List (Sym × Nat)) : List Value := (pre.filter (ofB d)).map fun x => .int .i64 (x.2 : Int)
theorem ofVals_yes {d : Bool} {pre : List (Sym × Nat)} {x : Sym × Nat} (h : (x.1.df == d) = true) : ofVals d (pre ++ [x]) = ofVals d pre ++ [.int .i64 (x.2 : Int)] := by simp [ofVals, ofB, h, List.filter_append]
theorem ofVals_no {d : Bool} {pre : List (Sym × Nat)} {x : Sym × Nat} (h : (x.1.df == d) = false) : ofVals d (pre ++ [x]) = ofVals d pre := by simp [ofVals, ofB, h, List.filter_append]
theorem ofVals_le (d : Bool) (pre : List (Sym × Nat)) : (ofVals d pre).length ≤ pre.length := by simp only [ofVals, List.length_map]; exact List.length_filter_le _ _
theorem info_int : (Try.prog.info? 3).map (fun i => (i.zero, i.size, i.bytes)) = some (some (.int .i64 0), 1, 8) := by kernel_rfl
theorem row_not_def {W : World} {base : Nat} {e : TypeId} {size : Nat} {v : Value} {n : Nat} {xs : List Value} {D : Nat} {o : Option (List Deferred)} (hr : W.ownsRow base e size v n xs) (hK : W.heap[D]? = some (.deferred o)) : v.ownBlock = none ∨ v.ownBlock ≠ some D := by
  rcases hr.2 with ⟨rfl, _⟩ | ⟨g, c, cur, rfl, _, hg, _⟩
  · exact .inl rfl
  · refine .inr fun e => ?_
    simp [Value.ownBlock] at e
    subst e
    rw [hg] at hK; cases hK
set_option maxRecDepth 100000 in
set_option maxHeartbeats 2000000 in
theorem of_in (F : Fence) (n : Nat) (h22 : F.fn 22) (h23 : F.fn 23) (h37 : F.fn 37) (hro : F.round = none) (hn : 3 ≤ n) (p : Option Addr) (L : List Sym) (d : Bool) (w : World) (hs : Seqs w w.heap.size p L) :
    CallsIn F n Try.prog 23 #[.pointer p, .bool d] w fun e w' => ∃ v, e = .returned v ∧ w'.ownsRow w.heap.size 3 1 v (ofVals d L.zipIdx).length (ofVals d L.zipIdx) ∧ Below w.heap.size w w' := by
  have h1 : 1 ≤ n := by omega
  refine callsIn_of_wp_marks Try.func23 rfl h23 ?_ hro
  simp only [Try.ntmps23, List.size_toArray, List.length_cons, List.length_nil, Nat.reduceAdd, Nat.reduceSub, Array.replicate_succ, Array.replicate_zero, List.push_toArray, List.append_toArray, List.nil_append, List.cons_append]
  gi_wp2_with (gi_at_call 22; refine (all_in F (n - 1) h22 hro _ _).mono ?_; rintro e w' ⟨rfl, rfl⟩)
  have bD := ((Boxed.new w 4 (.bool d)).alloc (.cells #[.slice none 0 0] 53)).alloc (.cells #[.pointer p] 25)
  have bL := (Boxed.new (w.alloc (.cells #[.bool d] 4)) 53 (.slice none 0 0)).alloc (.cells #[.pointer p] 25)
  have bP := Boxed.new ((w.alloc (.cells #[.bool d] 4)).alloc (.cells #[.slice none 0 0] 53)) 25 (.pointer p)
  simp only [World.size_alloc] at bL bP
  have hB0 : Below w.heap.size w (((w.alloc (.cells #[.bool d] 4)).alloc (.cells #[.slice none 0 0] 53)).alloc (.cells #[.pointer p] 25)) := (((Below.refl _ w).alloc (Nat.le_refl _) _).alloc (by simp) _).alloc (by simp; omega) _
  have hsz : (((w.alloc (.cells #[.bool d] 4)).alloc (.cells #[.slice none 0 0] 53)).alloc (.cells #[.pointer p] 25)).heap.size = w.heap.size + 3 := by simp
  obtain ⟨W0, hW0⟩ : ∃ W0, ((w.alloc (.cells #[.bool d] 4)).alloc (.cells #[.slice none 0 0] 53)).alloc (.cells #[.pointer p] 25) = W0 := ⟨_, rfl⟩
  rw [hW0] at bD bL bP hB0 hsz ⊢
  clear hW0
  have hlen := hs.len
  refine wpIn_rangeFunc_ownH hro h1 (gf := 37) (lb := #[.pointer (some ⟨w.heap.size + 1 + 1, 0, none⟩)]) rfl h37 (enters_of Try.func37 (by kernel_rfl) rfl)
    (seq_stops F (n - 1) h37 hro (by omega) (w.heap.size + 1 + 1) w.heap.size p L W0 (by omega) (by omega) bP.cell (hs.below hB0)) belowK_t (belowK_b (by omega)) (Below.refl _ _) (fun _ => rfl)
    (fun pre W => ((∃ v, Boxed W (w.heap.size + 1) 53 v ∧ W.ownsRow w.heap.size 3 1 v (ofVals d pre).length (ofVals d pre) ∧ True) ∧ Boxed W w.heap.size 4 (.bool d)) ∧ Below w.heap.size w W)
    (fun _ _ _ => False)
    (OwnFrom.and (OwnFrom.and (Own.from (holdsRow_own _ _ _ _ _ _ _ _) _) (Own.from (boxed_own _ _ _) _)) (ownFrom_below (Nat.le_refl _) (by omega)))
    (fun _ _ _ _ _ hs _ _ => hs)
    ⟨⟨⟨_, bL, World.ownsRow_nil _ _ _ _, trivial⟩, bD⟩, hB0⟩
    (fun x a' W => ∃ Bx, w.heap.size + 1 < Bx ∧ W.heap[Bx]? = some (.cells #[.string x.1.name, .int .i64 x.1.ar, .bool x.1.df] 35 (0, 0)) ∧ a' = { tmps := #[.pointer p, .bool d, undef, .pointer (some ⟨w.heap.size, 0, none⟩), .slice none 0 0, .pointer (some ⟨w.heap.size + 1, 0, none⟩), .int .i64 (x.2 : Int), .pointer (some ⟨Bx, 0, none⟩), .pointer p, .func (.func 37) #[] #[.pointer (some ⟨w.heap.size + 1 + 1, 0, none⟩)], .int .i64 (x.2 : Int), symV x.1, undef, undef, undef, undef, undef, undef, undef, undef, undef], defers := [] })
    (fun x a' _ X Y row hs hg hr => by
      obtain ⟨Bx, h1, h2, h3⟩ := hs
      exact ⟨Bx, h1, (hg.block Bx (lt_of_at h2) (fun e => by obtain ⟨_, o, ho, hc⟩ := hr Bx e.symm; rw [h2] at ho; cases ho; cases hc)).trans h2, h3⟩)
    ?assign ?body ?done ?stop
  case assign =>
    rintro l pre x W K ⟨⟨⟨v, bv, hr, _⟩, bD1⟩, hB1⟩ hK
    gi_wp2
    exact hK _ _ ((KeepsOthers.alloc _ _).from _) ((Below.refl _ W).alloc hB1.size _) ⟨⟨⟨v, bv.alloc _, hr.alloc _, trivial⟩, bD1.alloc _⟩, hB1.alloc hB1.size _⟩ ⟨W.heap.size, bv.lt, heap_alloc_new W _, rfl⟩
  case body =>
    rintro l pre x a' W hl ⟨r, hr⟩ ⟨⟨⟨v, bv, hrow, _⟩, bD1⟩, hB1⟩ ⟨Bx, hBx, bX, rfl⟩ hlt
    have cX : W.cell? ⟨Bx, 2, none⟩ = some (.bool x.1.df) := cellAt bX 2
    have cD := bD1.cell
    have cL := bv.cell
    have hle := ofVals_le d pre
    obtain ⟨i0, hi, hz0, hz1, hz2⟩ := info_parts info_int
    cases hd : (x.1.df == d) with
    | true =>
      have b1 : (ofVals d pre).length + 1 ≤ maxLen := by unfold maxLen; omega
      have b2 : ((ofVals d pre).length + 1) * 8 ≤ 140737488355328 := by omega
      have b3 : w.heap.size ≤ (W.alloc (.cells #[.int .i64 (x.2 : Int)] 3)).heap.size := by have := hB1.size; simp; omega
      gi_wp2_with (gi_at_builtin; refine wpListIn_append_own _ rfl _ _ 53 rfl w.heap.size 3 i0 (.int .i64 0) 1 8 Try.underlying53 hi hz0 hz1 hz2 rfl (by decide) _ _ _ rfl (hrow.alloc _) ⟨W.heap.size, 0, none⟩ 1 1 [.int .i64 (x.2 : Int)] rfl rfl (cell_one_new _ _ _) (by simp [Value.oneCell']) b1 b2 b3 ?_; intro v' w1 hown' hgrow _; obtain ⟨g', cap', rfl⟩ := ownsRow_succ hown'; obtain ⟨hv1, hv2, hr2, hk2, hb2⟩ := bv.appended (by decide) hrow hB1.size (by simp) hown' hgrow; have hc1 := hv1.cell; have hf1 := hv1.frozen)
      have bD2 := ((bD1.alloc (.cells #[.int .i64 (x.2 : Int)] 3)).kept hgrow (bD1.not_row (by decide) hrow)).other (B' := w.heap.size + 1) (by omega) (.slice (some ⟨g', 0, none⟩) ((ofVals d pre).length + 1) cap')
      refine ⟨hk2.from _, hb2, ⟨⟨_, hv2, ?_, trivial⟩, bD2⟩, hB1.trans hb2⟩
      rw [ofVals_yes hd]
      simpa using hr2
    | false =>
      gi_wp2
      exact ⟨KeepsFrom.refl _ _, Below.refl _ _, ⟨⟨v, bv, by rw [ofVals_no hd]; exact hrow, trivial⟩, bD1⟩, hB1⟩
  case done =>
    rintro D zs W hD rfl ⟨⟨⟨v, bv, hrow, _⟩, bD1⟩, hB1⟩ hK
    have cL := bv.cell
    gi_wp2
    refine ⟨by simp, .inl ⟨_, _, rfl, run_takeDeferred hK, ?_⟩⟩
    refine ⟨_, results_tmp rfl _ _ _, _, rfl, ?_, hB1.trans (belowK_b (w := w) (Nat.le_refl _) W D _ _ (by omega) hK rfl rfl)⟩
    exact hrow.kept (grownBy_putObj' W D _) (row_not_def hrow hK)
  case stop =>
    rintro D c pre W _ _ h _
    exact h.elim
end Go.Proofs.Ytaaoomociddopaa
