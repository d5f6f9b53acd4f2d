import Derived.Test.YtbjfpfnfbgncnaaGreatDoorM13
import Derived.Test.YtbjfpfnfbgncnaaGreatDoorM14
import Derived.Lib.SmallJoins
import Derived.Shelf.Strings.Builder1
import Derived.OrdersHeld
/- The walks of the reader's number, its list and its end. -/
namespace Go.Proofs.YtbjfpfnfbgncnaaGreatDoor
open Go.RowKit
set_option linter.unusedVariables false
set_option maxRecDepth 100000
/-- A Number's value, and what is behind it. -/
def numberF : List Tok → Except Nat (Nat × List Tok)
  | [] => .error 0
  | t :: r => if t.kind = 3 then .ok (valL t.text, r) else .error t.at'
theorem same_bytes (w : World) (t5 : TypeId) (t : ByteArray) : Same0 w (Lib.bytesWorld w t5 t) := Same0.of_below (Go.Joins.below_bytesWorld _ w t5 t (Nat.le_refl _))
theorem field_text (a b c : Value) (w : World) : (Instr.field 113 (.agg #[a, b, c]) 2).run Tryz.prog w = .ok c w := by kernel_rfl
theorem field_at (a b c : Value) (w : World) : (Instr.field 113 (.agg #[a, b, c]) 1).run Tryz.prog w = .ok b w := by kernel_rfl
set_option maxHeartbeats 2000000 in
theorem number_ok {w : World} {rb tb : Nat} {t : Tok} {r : List Tok} (h : RdAt w rb tb (t :: r)) (ho : TokOk t) (hk : t.kind = 3) :
    Calls Tryz.prog 75 #[.pointer (some ⟨rb, 0, none⟩)] w fun e w' => e = .returned (.int .i64 (valL t.text : Int)) ∧ RdAt w' rb tb r ∧ Kept (fun i => i = rb) w w' := by
  have c1 := take1_ok h 3 (by omega)
  obtain ⟨h1, h2, h3⟩ := ho.2 hk
  have c2 := fun W => Tryz.strconv_Atoi (txt t.text) (valL t.text : Int) (by rw [txt_size]; omega) (by rw [txt_list]; exact atoi_val h1 h3) W
  unfold aggT at c1
  clear h ho hk
  have hfd := field_text
  go_enter Tryz.func75, Tryz.ntmps75
  go_wp2_with (first | (go_at_call 52; refine c1.mono ?_; rintro e w1 ⟨rfl, k1, k2⟩) | (go_at_call 96; refine (c2 _).mono ?_; rintro e w2 ⟨rfl, u, rfl⟩))
  go_ret
  exact ⟨rfl, k1.same (same_bytes _ _ _), k2.trans (same_bytes _ _ _) (fun _ _ f => f.elim)⟩
set_option maxHeartbeats 2000000 in
theorem number_bad {w : World} {rb tb : Nat} {t : Tok} {r : List Tok} (h : RdAt w rb tb (t :: r)) (hk : ¬ t.kind = 3) :
    Calls Tryz.prog 75 #[.pointer (some ⟨rb, 0, none⟩)] w fun e w' => GaveUp w.heap.size w' e 41 t.at' ∧ Same0 w w' := by
  have c1 := take1_bad h 3 (by omega)
  clear h hk
  go_enter Tryz.func75, Tryz.ntmps75
  go_wp2_with (first | (go_at_call 52; refine c1.mono ?_; rintro e w1 ⟨⟨b, rfl, k1, k2⟩, k3⟩))
  exact ⟨rfl, ⟨b, rfl, k1, k2⟩, k3⟩
end Go.Proofs.YtbjfpfnfbgncnaaGreatDoor
/- The walks of the library's Builder, as the field of a writer. -/
namespace Go.Proofs.YtbjfpfnfbgncnaaGreatDoor
open Go.RowKit
set_option linter.unusedVariables false
set_option maxRecDepth 100000
/-- A writer's text so far. -/
def WrB (base b : Nat) (l : List UInt8) (w : World) : Prop := Lib.IsBuilder 77 5 base b (Lib.byteCells l) w
/-- A row of bytes. -/
def Bytes (w : World) (i : Nat) : Prop := ∃ cur fr, w.heap[i]? = some (.cells cur 5 fr)
/-- What was written turned the writer and rows of bytes alone, all of them new since base. -/
def Wrote (base b : Nat) (w w' : World) : Prop := Kept (fun i => base ≤ i ∧ (i = b ∨ Bytes w i)) w w'
theorem Wrote.refl (base b : Nat) (w : World) : Wrote base b w w := Kept.refl _ w
theorem Wrote.trans {base b : Nat} {x y z : World} (h : Wrote base b x y) (k : Wrote base b y z) : Wrote base b x z := by
  refine Kept.trans h k (fun i hi e => ⟨e.1, ?_⟩)
  rcases e.2 with e2 | e2
  · exact .inl e2
  · by_cases hx : base ≤ i ∧ (i = b ∨ Bytes x i)
    · exact hx.2
    · obtain ⟨cur, fr, h1⟩ := e2
      rw [h.block i hi hx] at h1
      exact .inr ⟨cur, fr, h1⟩
theorem Wrote.of_same {base b : Nat} {w w' : World} (k : Same0 w w') : Wrote base b w w' := Kept.mono k (fun _ _ f => f.elim)
theorem WrB.lt {base b : Nat} {l : List UInt8} {w : World} (h : WrB base b l w) : base ≤ b ∧ b < w.heap.size := by
  rcases h with h | h <;> obtain ⟨h1, v, h2, _⟩ := h <;> exact ⟨h1, lt_of_at h2⟩
theorem WrB.same {base b : Nat} {l : List UInt8} {w w' : World} (h : WrB base b l w) (k : Same0 w w') : WrB base b l w' := by
  rcases h with ⟨h1, v, h2, h3, h4⟩ | ⟨h1, v, h2, h3, h4⟩
  · exact .inl ⟨h1, v, k.at0 h2, k.row h3 (fun _ _ f => f), h4⟩
  · exact .inr ⟨h1, v, k.at0 h2, k.row h3 (fun _ _ f => f), h4⟩
theorem lies_writer : liesAt Tryz.prog Tryz.prog.depth 77 (2 / Tryz.prog.cellsOf 77) 0 75 1 = true := by kernel_rfl
theorem size_builder : (Tryz.prog.info? 75).map (fun j => j.size) = some 2 := by kernel_rfl
theorem info_byte : (Tryz.prog.info? 5).map (fun i => (i.zero, i.size, i.bytes)) = some (some (.int .u8 0), 1, 1) := by kernel_rfl
set_option maxHeartbeats 1000000 in
theorem copy_used (b : Nat) (w : World) (h0 : w.cell? ⟨b, 0, none⟩ = some (.pointer (some ⟨b, 0, none⟩))) : Calls Tryz.prog 91 #[.pointer (some ⟨b, 0, none⟩)] w fun e w' => e = .returned (.tuple #[]) ∧ w' = w := by
  obtain ⟨j, hj, _⟩ := Option.map_eq_some_iff.1 size_builder
  have hn := Lib.run_neq_ptr_same w (⟨b, 0, none⟩ : Addr) Tryz.underlying72 hj
  go_enter Tryz.func91, Tryz.ntmps91
  go_wp2
  go_end0
  exact ⟨rfl, rfl⟩
set_option maxHeartbeats 1000000 in
theorem copy_fresh (b : Nat) (w : World) (h0 : w.cell? ⟨b, 0, none⟩ = some (.pointer none)) (hsh : w.shape? b = some (77, 2)) (hfz : w.frozen? ⟨b, 0, none⟩ = false) :
    Calls Tryz.prog 91 #[.pointer (some ⟨b, 0, none⟩)] w fun e w' => e = .returned (.tuple #[]) ∧ w' = w.setCell ⟨b, 0, none⟩ (.pointer (some ⟨b, 0, none⟩)) := by
  obtain ⟨j, hj, hjs⟩ := Option.map_eq_some_iff.1 size_builder
  have h1 := Lib.run_to_unsafe w (⟨b, 0, none⟩ : Addr) Tryz.underlying72 Tryz.underlying151 hj (by rw [hjs]; decide) hsh (Nat.zero_lt_succ 1)
  have h2 : ∀ x W, (callFunc 106 #[x]).run Tryz.prog W = .ok (.value x) W := fun x W => by
    rw [run_callFunc_extern Tryz.func106 (by kernel_rfl) (by kernel_rfl) (by kernel_rfl) (e := Extern.AbiNoEscape.same) (by kernel_rfl)]
    rw [Lib.run_noEscape]
    rfl
  have h3 := Lib.run_from_unsafe w (⟨b, 0, none⟩ : Addr) Tryz.underlying151 Tryz.underlying72 hj hsh lies_writer
  go_enter Tryz.func91, Tryz.ntmps91
  go_wp2
  go_end0
  exact ⟨rfl, rfl⟩
theorem wrote_set {base b o : Nat} {w : World} (hb : base ≤ b) (q : Value) : Wrote base b w (w.setCell ⟨b, o, none⟩ q) := Kept.setCell (p := ⟨b, o, none⟩) (Kept.refl _ w) (fun _ => ⟨hb, .inl rfl⟩) _
set_option maxHeartbeats 2000000 in
theorem wwrite_any {base b : Nat} {l : List UInt8} {w : World} (h : WrB base b l w) (s : ByteArray) (hlen : l.length + s.size ≤ 140737488355328) (hBw : base ≤ w.heap.size) :
    Calls Tryz.prog 63 #[.pointer (some ⟨b, 0, none⟩), .string s] w fun e w' => e = .returned (.tuple #[.int .i64 s.size, .nilIface]) ∧ WrB base b (l ++ s.data.toList) w' ∧ Wrote base b w w' := by
  obtain ⟨i0, hi, hz0, hz1, hz2⟩ := info_parts info_byte
  have cc : Calls Tryz.prog 91 #[.pointer (some ⟨b, 0, none⟩)] w fun e w1 => e = .returned (.tuple #[]) ∧ Lib.BuilderAt 77 5 base b (.pointer (some ⟨b, 0, none⟩)) (Lib.byteCells l) w1 ∧ Wrote base b w w1 := by
    rcases h with h | h
    · refine (copy_fresh b w h.cell0 h.shape h.frozen0).mono ?_
      rintro e w' ⟨rfl, rfl⟩
      exact ⟨rfl, h.used _, wrote_set h.1 _⟩
    · refine (copy_used b w h.cell0).mono ?_
      rintro e w' ⟨rfl, rfl⟩
      exact ⟨rfl, h, Wrote.refl _ _ _⟩
  clear h
  go_enter Tryz.func63, Tryz.ntmps63
  go_upto_region 2 with (first | (go_at_call 91; refine cc.mono ?_; rintro e w1 ⟨rfl, h1, k1⟩))
  obtain ⟨hB, v, hbk, hown, hne⟩ := h1
  have c0 : w1.cell? ⟨b, 0, none⟩ = some (.pointer (some ⟨b, 0, none⟩)) := by rw [Lib.cell_of_heap hbk]; rfl
  have c1 : w1.cell? ⟨b, 1, none⟩ = some v := by rw [Lib.cell_of_heap hbk]; rfl
  rw [Lib.byteCells_length] at hown
  have hsz := k1.size
  have hlt := lt_of_at hbk
  have HB : Hid (w1.heap[b]? = some (.cells #[.pointer (some ⟨b, 0, none⟩), v] 77 (0, 0))) := hbk
  clear cc hbk
  go_wp2_with (first | (at_builtin; refine Lib.wpList_append_own_string _ rfl _ _ 73 9 rfl base 5 i0 Tryz.underlying73 Tryz.underlying9 hi hz0 hz1 hz2 _ _ _ rfl hown s rfl (by unfold maxLen; omega) (by omega) (by omega) ?_; intro v' w2 hown' hgrow _; have hb2 : w2.heap[b]? = some (.cells #[.pointer (some ⟨b, 0, none⟩), v] 77 (0, 0)) := (by rw [hgrow.block b hlt (fun e => hne e.symm)]; exact HB.out); have d0 := cellAt hb2 0; have d1 := cellAt hb2 1; have f1 := frozenAt hb2 1; simp only [List.getElem?_toArray, List.getElem?_cons_zero, List.getElem?_cons_succ] at d0 d1; obtain ⟨ao, cap, rfl⟩ : ∃ ao cap, v' = .slice ao (l.length + s.size) cap := row_shape hown'))
  go_ret2
  have hw : Lib.byteCells (l ++ s.data.toList) = Lib.byteCells l ++ Lib.strCells s := by simp [Lib.byteCells, Lib.strCells]
  have hlw : (l ++ s.data.toList).length = l.length + s.size := by rw [List.length_append, ← size_list]
  have hA : Lib.BuilderAt 77 5 base b (.pointer (some ⟨b, 0, none⟩)) (Lib.byteCells (l ++ s.data.toList)) (w2.setCell ⟨b, 1, none⟩ (.slice ao (l.length + s.size) cap)) := by
    refine Lib.BuilderAt.put hB hb2 ?_ (by decide)
    rw [Lib.byteCells_length, hlw, hw]; exact hown'
  refine ⟨rfl, .inr hA, ?_⟩
  have hgrow : w1.grownBy w2 v.ownBlock := hgrow
  have hG : Wrote base b w1 w2 := Kept.grown (Kept.refl _ w1) hgrow (fun k e _ => by
    rcases hown.2 with ⟨e2, _⟩ | ⟨g, cap', cur, e2, hbg, hg, _⟩
    · rw [e2] at e; simp [Value.ownBlock] at e
    · rw [e2] at e; simp [Value.ownBlock] at e; subst e; exact ⟨hbg, .inr ⟨cur, _, hg⟩⟩)
  exact (k1.trans hG).trans (wrote_set hB _)
set_option maxHeartbeats 2000000 in
theorem wlen_any {base b : Nat} {l : List UInt8} {w : World} (h : WrB base b l w) : Calls Tryz.prog 66 #[.pointer (some ⟨b, 0, none⟩)] w fun e w' => e = .returned (.int .i64 (l.length : Int)) ∧ w' = w := by
  obtain ⟨p, hB, v, hbk, hown, hne⟩ : ∃ p, Lib.BuilderAt 77 5 base b p (Lib.byteCells l) w := by
    rcases h with h | h
    · exact ⟨_, h⟩
    · exact ⟨_, h⟩
  rw [Lib.byteCells_length] at hown
  obtain ⟨ao, cap, rfl⟩ : ∃ ao cap, v = .slice ao l.length cap := row_shape hown
  have c1 := cellAt hbk 1
  simp only [List.getElem?_toArray, List.getElem?_cons_zero, List.getElem?_cons_succ] at c1
  clear hbk hown h
  go_enter Tryz.func66, Tryz.ntmps66
  go_wp2
  go_ret
  exact ⟨rfl, rfl⟩
theorem cells_byte : Tryz.prog.cellsOf 5 = 1 := by kernel_rfl
set_option maxHeartbeats 4000000 in
theorem wstring_any {base b : Nat} {l : List UInt8} {w : World} (h : WrB base b l w) (h0 : l ≠ []) : Calls Tryz.prog 48 #[.pointer (some ⟨b, 0, none⟩)] w fun e w' => e = .returned (.string ⟨l.toArray⟩) ∧ Below base w w' := by
  obtain ⟨p, hB, v, hbk, hown, hne⟩ : ∃ p, Lib.BuilderAt 77 5 base b p (Lib.byteCells l) w := by
    rcases h with h | h
    · exact ⟨_, h⟩
    · exact ⟨_, h⟩
  have hl0 : l.length ≠ 0 := by simpa using h0
  rw [Lib.byteCells_length] at hown
  obtain ⟨g, cap, cur, rfl, hbg, hg, hnc, hcm, hcs, htake⟩ : ∃ g cap cur, v = .slice (some ⟨g, 0, none⟩) l.length cap ∧ base ≤ g ∧ w.heap[g]? = some (.cells cur 5 (0, 0)) ∧ l.length ≤ cap ∧ cap ≤ maxLen ∧ cur.size = cap * 1 ∧ cur.toList.take (l.length * 1) = Lib.byteCells l := by
    rcases hown.2 with ⟨_, hz⟩ | ⟨g, cap, cur, hv, r⟩
    · exact absurd hz hl0
    · exact ⟨g, cap, cur, hv, r⟩
  have hg' : w.drew.heap[g]? = some (.cells cur 5 (0, 0)) := hg
  have c1 : w.drew.cell? ⟨b, 1, none⟩ = some (.slice (some ⟨g, 0, none⟩) l.length cap) := by
    have hb' : w.drew.heap[b]? = some (.cells #[p, .slice (some ⟨g, 0, none⟩) l.length cap] 77 (0, 0)) := hbk
    rw [Lib.cell_of_heap hb']; rfl
  have hSD : (Builtin.unsafeSliceData_ #[73] 146 #[.slice (some ⟨g, 0, none⟩) l.length cap]).run Tryz.prog w.drew = .ok (.pointer (some ⟨g, 0, none⟩)) w.drew := Lib.run_unsafeSliceData_row _ _ _ _ _ _ (by omega)
  have hUS : (Builtin.unsafeString_ #[146, 3] 9 #[.pointer (some ⟨g, 0, none⟩), .int .i64 l.length]).run Tryz.prog w.drew = .ok (.string ⟨l.toArray⟩) (w.drew.freeze ⟨g, 0, none⟩ l.length) := by
    refine Lib.run_unsafeString_row w.drew 146 3 9 5 Tryz.underlying146 cells_byte g cur.size (by simp [World.shape?, hg']) l h0 (by omega) (by unfold maxLen at hcm; omega) ?_
    intro j x hx
    exact hown.cells (g := g) rfl j (.int .u8 x.toNat) (by simp [Lib.byteCells, hx])
  clear hg' hown hbk hne h htake
  go_enter Tryz.func48, Tryz.ntmps48
  go_wp2
  go_region
  all_goals (go_wp2; go_ret; exact ⟨rfl, Lib.below_freeze (Below.drew (Below.refl base w)) (p := ⟨g, 0, none⟩) hbg _⟩)
/-- The decimal digits of a small number, written. -/
theorem app_str (l : List UInt8) (t : List UInt8) : l ++ (⟨t.toArray⟩ : ByteArray).data.toList = l ++ t := by simp
set_option maxHeartbeats 2000000 in
theorem wnumber_small {base b : Nat} {l : List UInt8} {w : World} (h : WrB base b l w) (n : Nat) (hn : n < 100) (hlen : l.length ≤ 100000000) (hBw : base ≤ w.heap.size) :
    Calls Tryz.prog 64 #[.pointer (some ⟨b, 0, none⟩), .int .i64 (n : Int)] w fun e w' => e = .returned (.tuple #[]) ∧ WrB base b (l ++ Lib.decDigits n) w' ∧ Wrote base b w w' := by
  have kd : Same0 w w.drew := Kept.drew (Kept.refl _ w)
  have hdl : (Lib.decDigits n).length ≤ 2 := dec_len (k := 1) (by omega)
  have cI := Tryz.strconv_Itoa_small n hn w.drew
  have cW := wwrite_any (h.same kd) (⟨(Lib.decDigits n).toArray⟩ : ByteArray) (by simp [ByteArray.size]; omega) hBw
  rw [app_str] at cW
  go_enter Tryz.func64, Tryz.ntmps64
  refine wp_region_held (S := fun _ => True) (by kernel_rfl) ?_
  refine wpAnyH_take (i := 0) (v := .pointer (some ⟨b, 0, none⟩)) rfl (by kernel_rfl) (by kernel_rfl) (by kernel_rfl) (fun _ _ _ h => h) (.inl ⟨rfl, fun w' hS => by simp [go_sem]⟩) trivial ?_
  refine wpAnyH_take (i := 1) (v := .pointer (some ⟨b, 0, none⟩)) rfl (by kernel_rfl) (by kernel_rfl) (by kernel_rfl) (fun _ _ _ h => h) (.inl ⟨rfl, fun w' hS => by simp [go_sem]⟩) trivial ?_
  refine wpAnyH_take (i := 2) (v := .pointer (some ⟨b, 0, none⟩)) rfl (by kernel_rfl) (by kernel_rfl) (by kernel_rfl) (fun _ _ _ h => h) (.inl ⟨rfl, fun w' hS => by simp [go_sem]⟩) trivial ?_
  refine wpAnyH_take (i := 3) (v := .int .i64 (n : Int)) rfl (by kernel_rfl) (by kernel_rfl) (by kernel_rfl) (fun _ _ _ h => h) (.inl ⟨rfl, fun w' hS => by simp [go_sem]⟩) trivial ?_
  refine wpAnyH_all (rs := [4]) (by kernel_rfl) (by simp) (fun i hi => ?_)
  obtain rfl := List.mem_singleton.1 hi
  simp [wpOp, go_sem]
  refine .inl (cI.mono ?_)
  rintro e w1 ⟨rfl, rfl⟩
  refine wpAnyH_all (rs := [5]) (by kernel_rfl) (by simp) (fun i hi => ?_)
  obtain rfl := List.mem_singleton.1 hi
  simp [wpOp, go_sem]
  refine .inl (cW.mono ?_)
  rintro e w2 ⟨rfl, h1, h2⟩
  refine wpAnyH_done (by kernel_rfl) ?_ _
  exact ⟨rfl, _, by simp [results, Tryz.results64], rfl, h1, (Wrote.of_same kd).trans h2⟩
set_option maxHeartbeats 2000000 in
theorem wbetween {base b : Nat} {l : List UInt8} {w : World} (h : WrB base b l w) (n : Nat) (s : ByteArray) (hs : s.size ≤ 10) (hlen : l.length ≤ 100000000) (hBw : base ≤ w.heap.size) :
    Calls Tryz.prog 65 #[.pointer (some ⟨b, 0, none⟩), .int .i64 (n : Int), .string s] w fun e w' => e = .returned (.tuple #[]) ∧ WrB base b (l ++ (if n = 0 then [] else s.data.toList)) w' ∧ Wrote base b w w' := by
  by_cases hn : n = 0
  · subst hn
    go_enter Tryz.func65, Tryz.ntmps65
    go_wp2_with fail
    go_end0
    exact ⟨rfl, by assumption, Wrote.refl _ _ _⟩
  · have hp : (0 : Int) < (n : Int) := by omega
    have cW := wwrite_any h s (by omega) hBw
    rw [if_neg hn]
    clear h hn
    go_enter Tryz.func65, Tryz.ntmps65
    go_wp2_with (first | (go_at_call 63; refine cW.mono ?_; rintro e w1 ⟨rfl, h1, h2⟩))
    go_end0
    exact ⟨rfl, h1, h2⟩
end Go.Proofs.YtbjfpfnfbgncnaaGreatDoor
