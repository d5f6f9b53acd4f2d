/- The walks of the frames' taker, of Path, Nodes and Frames. -/
import Derived.Test.YtikcocjbbbdmgaaSpineTake
namespace Go.Proofs.Ytikcocjbbbdmgaa
set_option maxRecDepth 100000
set_option linter.unusedVariables false
open Go.RowKit
attribute [local go_sem ↓] Go.wp_at_zero Go.wp_at_succ
set_option maxHeartbeats 2000000 in
theorem take_frames {B : Nat → Prop} {base : Nat} {w : World} {s : Nat} {v : Value} {l : List Fr} (p : SpT 62 B base w s v l) {x : Fr} {ao : Option Addr} {ac : Nat} (hx : Arg w ao x.2.2.2 ac) (hB : ∀ k, w.heap.size ≤ k → B k) (hl : (l.length + 1) * 48 ≤ 140737488355328) :
    Calls Try.prog 40 #[.pointer (some ⟨s, 0, none⟩), frV x ao ac] w fun e w' => (∃ u, e = .returned u) ∧ PushQ 62 B base w s v l x w' := by
  obtain ⟨W0, hW0⟩ : ∃ W0, W0 = w.alloc (.cells #[.int .i64 x.1, .bool x.2.1, .int .i64 x.2.2.1, .slice ao x.2.2.2.length ac] 30) := ⟨_, rfl⟩
  have k0 : Same0 w W0 := by rw [hW0]; exact (Kept.refl _ w).alloc _
  have hb0 : W0.heap[w.heap.size]? = some (.cells #[.int .i64 x.1, .bool x.2.1, .int .i64 x.2.2.1, .slice ao x.2.2.2.length ac] 30 (0, 0)) := by rw [hW0]; exact heap_alloc_new w _
  have hbs : base ≤ w.heap.size := by have := p.low; have := p.lt; omega
  have CELLS : Hid (∀ ww, Same0 W0 ww → ww.cell? ⟨s, 0, none⟩ = some v ∧ ww.cell? ⟨w.heap.size, 0, none⟩ = some (.int .i64 x.1) ∧ ww.cell? ⟨w.heap.size, 1, none⟩ = some (.bool x.2.1) ∧ ww.cell? ⟨w.heap.size, 2, none⟩ = some (.int .i64 x.2.2.1) ∧ ww.cell? ⟨w.heap.size, 3, none⟩ = some (.slice ao x.2.2.2.length ac)) := fun ww hk => ⟨(p.same (k0.trans' hk)).cell.1, (box4 (hk.at0 hb0)).1, (box4 (hk.at0 hb0)).2.1, (box4 (hk.at0 hb0)).2.2.1, (box4 (hk.at0 hb0)).2.2.2⟩
  have CO : Hid (∀ ww, Same0 W0 ww → Calls Try.prog 37 #[frV x ao ac] ww fun e w' => ∃ bo bc, e = .returned (frV x bo bc) ∧ ArgR w' bo x.2.2.2 bc ∧ (∀ a, bo = some a → B a.block ∧ w.heap.size ≤ a.block) ∧ Same0 W0 w') := fun ww hk => (fcopied_any (ac := ac) (show Arg ww ao x.2.2.2 ac from ⟨hx.at'.same (k0.trans' hk), hx.cap', hx.nil, hx.size⟩)).mono (fun e w' ⟨bo, bc, q1, q2, q3⟩ => by
    obtain ⟨ao', ac', e2, h1, h2⟩ := q2.argR hx.size
    simp only [Value.slice.injEq] at e2
    obtain ⟨rfl, _, rfl⟩ := e2
    exact ⟨bo, bc, q1, h1, fun a e => ⟨hB _ (Nat.le_trans (k0.trans' hk).size (h2 a e)), Nat.le_trans (k0.trans' hk).size (h2 a e)⟩, hk.trans' q3⟩)
  have HRW : Hid (∀ ww, Same0 W0 ww → FRow (fun k => B k ∧ k < w.heap.size) base ww v l) := fun ww hk => (p.row.mono (fun k a b => ⟨b, a⟩)).same (k0.trans' hk)
  have FIN : Hid (∀ w2 gg cap w9, Same0 W0 w2 → FRow B base w9 (.slice (some ⟨gg, 0, none⟩) (l.length + 1) cap) (l ++ [x]) → Kept (fun k => v.ownBlock = some k) w2 w9 → (v.ownBlock = some gg ∨ w2.heap.size ≤ gg) → (w9.cell? ⟨s, 0, none⟩ = some v ∧ w9.frozen? ⟨s, 0, none⟩ = false) ∧ Hid (PushQ 62 B base w s v l x (w9.setCell ⟨s, 0, none⟩ (.slice (some ⟨gg, 0, none⟩) (l.length + 1) cap)))) := by
    intro w2 gg cap w9 s2 r9 k9 hat
    have kk : Kept (fun k => v.ownBlock = some k) w w9 := (Kept.mono (k0.trans' s2) (fun _ _ f => f.elim)).trans k9 (fun _ _ e => e)
    obtain ⟨q1, q2, q3, q4⟩ := p.turn kk p.ne r9
    refine ⟨⟨q3, q4⟩, _, q1, fun k e => ?_, q2⟩
    have : gg = k := Option.some.inj e
    subst this
    exact hat.imp id (fun e => Nat.le_trans (k0.trans' s2).size e)
  have hbW : base ≤ W0.heap.size := Nat.le_trans hbs k0.size
  have W00 : Hid (Same0 W0 W0.drew) := (Kept.refl _ _).drew
  obtain ⟨vo, vc, rfl⟩ := p.row.shape
  clear hx p hB hb0 k0
  go_enter Try.func40, Try.ntmps40
  go_upto_region 1 with fail
  rw [← hW0]
  clear hW0
  obtain ⟨d0, d1, d2, d3, d4⟩ := CELLS.out W0.drew W00.out
  go_region_law (first
    | (refine step_callF rfl (CO.out _ W00.out) (by simp [go_sem]) ?_; rintro e w2 ⟨bo, bc, rfl, ha, hbb, hk2⟩; refine ⟨_, rfl, ?_⟩; obtain ⟨e0, -⟩ := CELLS.out _ hk2; obtain ⟨f0, -⟩ := CELLS.out _ (hk2.alloc (.cells #[.int .i64 x.1, .bool x.2.1, .int .i64 x.2.2.1, .slice bo x.2.2.2.length bc] 30)))
    | (refine step_fr (w0 := w2) (by rfl) _ _ 62 (by rfl) Try.underlying62 base l (.slice vo l.length vc) (by rfl) (by first | exact (Kept.refl _ w2).alloc _ | exact (Kept.refl _ w2).drew.alloc _ | exact ((Kept.refl _ w2).alloc _).drew) (HRW.out _ hk2) x bo bc w2.heap.size (by rfl) (heap_alloc_new w2 _) ha hbb (Nat.le_trans hbW hk2.size) hl ?_; intro gg cap9 w9 r9 k9 hat; obtain ⟨⟨y0, y1⟩, FF⟩ := FIN.out w2 gg cap9 w9 hk2 r9 k9 hat))
  all_goals
    go_wp2
    first | go_end0 | (refine bodyPost_ret (results_none rfl _ _ _) rfl ?_)
    exact ⟨⟨_, rfl⟩, FF.out⟩
/-- The paths of frames, one behind the other. -/
def pathsL (l : List Fr) : List Int := (l.map (fun x => x.2.2.2)).flatten
theorem pathsL_take {l : List Fr} {k : Nat} (hk : k < l.length) : pathsL (l.take (k + 1)) = pathsL (l.take k) ++ l[k].2.2.2 := by
  unfold pathsL
  rw [List.take_succ_eq_append_getElem hk, List.map_append, List.flatten_append]
  simp only [List.map_cons, List.map_nil, List.flatten_cons, List.flatten_nil, List.append_nil]
theorem pathsL_le {l : List Fr} (k : Nat) : (pathsL (l.take k)).length ≤ (pathsL l).length := by
  have e : pathsL l = pathsL (l.take k) ++ pathsL (l.drop k) := by
    unfold pathsL
    rw [← List.flatten_append, ← List.map_append, List.take_append_drop]
  rw [e, List.length_append]
  omega
theorem pathsL_snoc (l : List Fr) (x : Fr) : pathsL (l ++ [x]) = pathsL l ++ x.2.2.2 := by
  unfold pathsL
  simp
/-- The nodes of frames. -/
def nodesL (l : List Fr) : List Int := l.map (fun x => x.1)
theorem nodesL_take {l : List Fr} {k : Nat} (hk : k < l.length) : nodesL (l.take (k + 1)) = nodesL (l.take k) ++ [l[k].1] := by
  unfold nodesL
  rw [List.take_succ_eq_append_getElem hk, List.map_append]
  simp only [List.map_cons, List.map_nil]
set_option maxHeartbeats 1000000 in
theorem path_any {B : Nat → Prop} {base : Nat} {w : World} {s : Nat} {v : Value} {l : List Fr} (p : SpT 53 B base w s v l) (hl : (pathsL l).length * 8 ≤ 140737488355328) :
    Calls Try.prog 20 #[.pointer (some ⟨s, 0, none⟩)] w fun e w' => ∃ u, e = .returned u ∧ Row w.heap.size w' u (pathsL l) ∧ Same0 w w' := by
  obtain ⟨W0, hW0⟩ : ∃ W0, W0 = w.alloc (.cells #[.slice none 0 0] 60) := ⟨_, rfl⟩
  have k0 : Same0 w W0 := by rw [hW0]; exact (Kept.refl _ w).alloc _
  have b0 : BxI 60 w.heap.size W0 w.heap.size (.slice none 0 0) [] := ⟨by rw [hW0]; exact heap_alloc_new w _, World.ownsRow_nil _ _ _ _, Nat.le_refl _, by decide⟩
  have CE := each_path (p.same k0) w.heap.size (fun k ww => ∃ u, BxI 60 w.heap.size ww w.heap.size u (pathsL (l.take k)) ∧ Same0 w ww) ⟨_, by simpa [pathsL] using b0, k0⟩
    (fun k ww o ⟨u, h1, h2⟩ => ⟨u, h1.same ((Kept.refl _ _).alloc _), h2.alloc _⟩) (fun k ww ⟨u, h1, h2⟩ => p.same h2)
    (fun k hk ww xo xc ⟨u, h1, h2⟩ ha _ => (take_path h1 ha (by have := pathsL_le (l := l) (k + 1); rw [pathsL_take hk, List.length_append] at this; omega)).mono (fun e w' ⟨q1, u', q2, q3⟩ => ⟨q1, u', by rw [pathsL_take hk]; exact q2, h2.trans q3 (fun i hi e => by
      rcases e with e | e
      · omega
      · have := (h1.row.lt i e).1; omega)⟩))
  have HF : Hid (∀ ww, (∃ u, BxI 60 w.heap.size ww w.heap.size u (pathsL (l.take l.length)) ∧ Same0 w ww) → ∃ uo uc, ww.cell? ⟨w.heap.size, 0, none⟩ = some (.slice uo (pathsL l).length uc) ∧ Row w.heap.size ww (.slice uo (pathsL l).length uc) (pathsL l) ∧ Same0 w ww) := fun ww ⟨u, h1, h2⟩ => by
    rw [List.take_length] at h1
    obtain ⟨uo, uc, e⟩ := row_shape h1.row
    subst e
    exact ⟨uo, uc, cellAt h1.box 0, h1.row, h2⟩
  clear p b0 k0
  go_enter Try.func20, Try.ntmps20
  go_upto_region 2 with fail
  rw [← hW0]
  clear hW0
  go_wp2_with (first | (go_at_call 38; refine CE.mono ?_; rintro e w1 ⟨⟨u, rfl⟩, hI⟩; obtain ⟨uo, uc, c0, r1, r2⟩ := HF.out w1 hI; have R1 : Hid (Row w.heap.size w1 (.slice uo (pathsL l).length uc) (pathsL l) ∧ Same0 w w1) := ⟨r1, r2⟩; clear r1 r2 hI))
  go_ret
  exact ⟨_, rfl, R1.out.1, R1.out.2⟩
theorem path_none (w : World) : Calls Try.prog 20 #[.pointer none] w fun e w' => e = .returned (.slice none 0 0) ∧ Same0 w w' := by
  obtain ⟨W0, hW0⟩ : ∃ W0, W0 = w.alloc (.cells #[.slice none 0 0] 60) := ⟨_, rfl⟩
  have k0 : Hid (Same0 w W0) := by show Same0 w W0; rw [hW0]; exact (Kept.refl _ w).alloc _
  have c0 := cellAt (show W0.heap[w.heap.size]? = some (.cells #[.slice none 0 0] 60 (0, 0)) by rw [hW0]; exact heap_alloc_new w _) 0
  have CE := each_path_none W0 w.heap.size
  go_enter Try.func20, Try.ntmps20
  go_upto_region 2 with fail
  rw [← hW0]
  clear hW0
  go_wp2_with (first | (go_at_call 38; refine CE.mono ?_; rintro e w1 ⟨⟨u, rfl⟩, h'⟩; have h' := h'.symm; subst h'))
  go_ret
  exact ⟨rfl, k0.out⟩
set_option maxHeartbeats 1000000 in
theorem nodes_any {B : Nat → Prop} {base : Nat} {w : World} {s : Nat} {v : Value} {l : List Fr} (p : SpT 53 B base w s v l) (hl : l.length * 8 ≤ 140737488355328) :
    Calls Try.prog 25 #[.pointer (some ⟨s, 0, none⟩)] w fun e w' => ∃ u, e = .returned u ∧ Row w.heap.size w' u (nodesL l) ∧ Same0 w w' := by
  obtain ⟨i, hi, hz0, hz1, hz2⟩ := info_parts info_intT
  have CL := slenF_any p
  have HF : Hid (∀ w1, Same0 w w1 → Row w.heap.size w1 (.slice (some ⟨w.heap.size, 0, none⟩) 0 l.length) [] → ∀ W2, W2 = w1.alloc (.cells #[.slice (some ⟨w.heap.size, 0, none⟩) 0 l.length] 63) → Calls Try.prog 38 #[.pointer (some ⟨s, 0, none⟩), .func (.func 41) #[.pointer (some ⟨w1.heap.size, 0, none⟩)] #[]] W2 fun e w' => (∃ u, e = .returned u) ∧ ∃ uo uc, w'.cell? ⟨w1.heap.size, 0, none⟩ = some (.slice uo (nodesL l).length uc) ∧ Hid (Row w.heap.size w' (.slice uo (nodesL l).length uc) (nodesL l) ∧ Same0 w w')) := fun w1 k1 r1 W2 hW2 => by
    have k2 : Same0 w1 W2 := by rw [hW2]; exact (Kept.refl _ _).alloc _
    have b0 : BxI 63 w.heap.size W2 w1.heap.size (.slice (some ⟨w.heap.size, 0, none⟩) 0 l.length) [] := ⟨by rw [hW2]; exact heap_alloc_new w1 _, k2.row r1 (fun _ _ f => f), k1.size, by decide⟩
    refine (each_nodes (p.same (k1.trans' k2)) w1.heap.size (fun k ww => ∃ u, BxI 63 w.heap.size ww w1.heap.size u (nodesL (l.take k)) ∧ Same0 w ww) ⟨_, by simpa [nodesL] using b0, k1.trans' k2⟩ (fun k ww o ⟨u, h1, h2⟩ => ⟨u, h1.same ((Kept.refl _ _).alloc _), h2.alloc _⟩) (fun k ww ⟨u, h1, h2⟩ => p.same h2) (fun k hk ww xo xc ⟨u, h1, h2⟩ _ _ => (take_nodes h1 (by simp [nodesL]; omega)).mono (fun e w' ⟨q1, u', q2, q3⟩ => ⟨q1, u', by rw [nodesL_take hk]; exact q2, h2.trans q3 (fun i hi e => by
      rcases e with e | e
      · have := k1.size; omega
      · have := (h1.row.lt i e).1; omega)⟩))).mono (fun e w' ⟨q1, u, q2, q3⟩ => ?_)
    rw [List.take_length] at q2
    obtain ⟨uo, uc, e⟩ := row_shape q2.row
    subst e
    exact ⟨q1, uo, uc, cellAt q2.box 0, q2.row, q3⟩
  have hmx : l.length ≤ maxLen := by unfold maxLen; omega
  have k00 : Hid (Same0 w w) := Kept.refl _ _
  clear p
  go_enter Try.func25, Try.ntmps25
  go_upto_region 2 with (first | (go_at_call 14; refine CL.mono ?_; rintro e w3 ⟨rfl, h3⟩; have h3 := h3.symm; subst h3) | (at_make; refine wpList_make_own _ rfl _ _ 63 rfl w.heap.size 3 i _ 1 Try.underlying63 hi hz0 hz1 _ _ _ l.length rfl rfl (by omega) (by rw [hz2]; omega) (by omega) (Nat.le_refl _) ?_; intro w1 hown hgrow))
  have CE := HF.out w1 (Same0.grown k00.out hgrow) hown _ rfl
  clear CL HF hown hgrow hi hz0 hz1 hz2
  obtain ⟨W2, hW2⟩ : ∃ W2, W2 = w1.alloc (.cells #[.slice (some ⟨w.heap.size, 0, none⟩) 0 l.length] 63) := ⟨_, rfl⟩
  rw [← hW2] at CE ⊢
  clear hW2
  go_wp2_with (first | (go_at_call 38; refine CE.mono ?_; rintro e w4 ⟨⟨u, rfl⟩, uo, uc, c0, R1⟩))
  go_ret
  exact ⟨_, rfl, R1.out.1, R1.out.2⟩
theorem FRow.nilAt {base : Nat} {w : World} {v : Value} (B : Nat → Prop) (h : w.ownsRow base 30 4 v 0 []) : FRow B base w v [] := ⟨[], h, FCl.nil B w, FDj.nil _⟩
set_option maxHeartbeats 1000000 in
theorem frames_any {B : Nat → Prop} {base : Nat} {w : World} {s : Nat} {v : Value} {l : List Fr} (p : SpT 53 B base w s v l) (hl : l.length * 48 ≤ 140737488355328) :
    Calls Try.prog 22 #[.pointer (some ⟨s, 0, none⟩)] w fun e w' => ∃ u, e = .returned u ∧ FRow (fun k => w.heap.size ≤ k) w.heap.size w' u l ∧ Same0 w w' := by
  obtain ⟨i, hi, hz0, hz1, hz2⟩ := info_parts info_frame
  have CL := slenF_any p
  have HF : Hid (∀ w1, Same0 w w1 → w1.ownsRow w.heap.size 30 4 (.slice (some ⟨w.heap.size, 0, none⟩) 0 l.length) 0 [] → ∀ W2, W2 = w1.alloc (.cells #[.slice (some ⟨w.heap.size, 0, none⟩) 0 l.length] 62) → Calls Try.prog 38 #[.pointer (some ⟨s, 0, none⟩), .func (.func 40) #[.pointer (some ⟨w1.heap.size, 0, none⟩)] #[]] W2 fun e w' => (∃ u, e = .returned u) ∧ ∃ uo uc, w'.cell? ⟨w1.heap.size, 0, none⟩ = some (.slice uo l.length uc) ∧ Hid (FRow (fun k => w.heap.size ≤ k) w.heap.size w' (.slice uo l.length uc) l ∧ Same0 w w')) := fun w1 k1 r1 W2 hW2 => by
    have k2 : Same0 w1 W2 := by rw [hW2]; exact (Kept.refl _ _).alloc _
    have b0 : SpT 62 (fun k => w.heap.size ≤ k) w.heap.size W2 w1.heap.size (.slice (some ⟨w.heap.size, 0, none⟩) 0 l.length) [] := by rw [hW2]; exact sp_new _ (by decide) _ w1 _ _ k1.size (FRow.nilAt _ r1)
    refine (each_frames (p.same (k1.trans' k2)) w1.heap.size (fun k ww => ∃ u, SpT 62 (fun k => w.heap.size ≤ k) w.heap.size ww w1.heap.size u (l.take k) ∧ Same0 w ww) ⟨_, by simpa using b0, k1.trans' k2⟩ (fun k ww o ⟨u, h1, h2⟩ => ⟨u, h1.same ((Kept.refl _ _).alloc _), h2.alloc _⟩) (fun k ww ⟨u, h1, h2⟩ => p.same h2) (fun k hk ww xo xc ⟨u, h1, h2⟩ ha _ => (take_frames h1 ha (fun j hj => Nat.le_trans h2.size hj) (by simp; omega)).mono (fun e w' ⟨q1, u', q2, q3, q4⟩ => ⟨q1, u', by rw [List.take_succ_eq_append_getElem hk]; exact q2, h2.trans q4 (fun i hi e => by
      rcases e with e | e
      · have := k1.size; omega
      · have := (h1.row.block e).1; omega)⟩))).mono (fun e w' ⟨q1, u, q2, q3⟩ => ?_)
    rw [List.take_length] at q2
    obtain ⟨uo, uc, e⟩ := q2.row.shape
    subst e
    exact ⟨q1, uo, uc, cellAt q2.box 0, q2.row, q3⟩
  have hmx : l.length ≤ maxLen := by unfold maxLen; omega
  have k00 : Hid (Same0 w w) := Kept.refl _ _
  clear p
  go_enter Try.func22, Try.ntmps22
  go_upto_region 2 with (first | (go_at_call 14; refine CL.mono ?_; rintro e w3 ⟨rfl, h3⟩; have h3 := h3.symm; subst h3) | (at_make; refine wpList_make_own _ rfl _ _ 62 rfl w.heap.size 30 i _ 4 Try.underlying62 hi hz0 hz1 _ _ _ l.length rfl rfl (by omega) (by rw [hz2]; omega) (by omega) (Nat.le_refl _) ?_; intro w1 hown hgrow))
  have CE := HF.out w1 (Same0.grown k00.out hgrow) hown _ rfl
  clear CL HF hown hgrow hi hz0 hz1 hz2
  obtain ⟨W2, hW2⟩ : ∃ W2, W2 = w1.alloc (.cells #[.slice (some ⟨w.heap.size, 0, none⟩) 0 l.length] 62) := ⟨_, rfl⟩
  rw [← hW2] at CE ⊢
  clear hW2
  go_wp2_with (first | (go_at_call 38; refine CE.mono ?_; rintro e w4 ⟨⟨u, rfl⟩, uo, uc, c0, R1⟩))
  go_ret
  exact ⟨_, rfl, R1.out.1, R1.out.2⟩
end Go.Proofs.Ytikcocjbbbdmgaa
