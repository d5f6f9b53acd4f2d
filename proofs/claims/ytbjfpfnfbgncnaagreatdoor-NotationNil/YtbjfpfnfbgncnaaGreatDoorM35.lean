import Derived.Test.YtbjfpfnfbgncnaaGreatDoorM34
/- The walks of how moves of small numbers are written. -/
namespace Go.Proofs.YtbjfpfnfbgncnaaGreatDoor
open Go.RowKit
set_option linter.unusedVariables false
set_option maxRecDepth 100000
def moveT (m : List Nat × Nat) : List UInt8 := pathT m.1 ++ 58 :: Lib.decDigits m.2
def movesT (ms : List (List Nat × Nat)) : List UInt8 := joinT [44, 32] (ms.map moveT)
theorem pathT_len {p : List Nat} (hp : ∀ n ∈ p, n < 100) (hl : p.length ≤ 10) : (pathT p).length ≤ 40 := by
  unfold pathT
  split
  · simp
  · cases p with
    | nil => simp [joinT]
    | cons x r =>
      simp only [List.map_cons, joinT, List.length_append]
      have h1 := dec_len (u := x) (k := 1) (by have := hp x (by simp); omega)
      have : ∀ (r : List Nat), (∀ n ∈ r, n < 100) → ((r.map Lib.decDigits).flatMap (fun y => [46] ++ y)).length ≤ r.length * 3 := by
        intro r
        induction r with
        | nil => intro _; simp
        | cons y r ih =>
          intro h
          have h2 := dec_len (u := y) (k := 1) (by have := h y (by simp); omega)
          have h3 := ih (fun n hn => h n (by simp [hn]))
          simp only [List.map_cons, List.flatMap_cons, List.length_append, List.length_cons, List.length_nil] at h3 ⊢
          omega
      have h4 := this r (fun n hn => hp n (by simp [hn]))
      simp at hl
      omega
theorem mo_at : ∀ (ms : List (List Nat × Nat)) (pv : List Value) (i : Nat) (h : i < ms.length) (h' : i < pv.length), (moCells ms pv)[i * 2]? = some pv[i] ∧ (moCells ms pv)[i * 2 + 1]? = some (.int .i64 (ms[i].2 : Int)) := by
  intro ms
  induction ms with
  | nil => intro pv i h; simp at h
  | cons x a ih =>
    intro pv i h h'
    cases pv with
    | nil => simp at h'
    | cons v pv =>
      cases i with
      | zero => simp [moCells]
      | succ j =>
        obtain ⟨e1, e2⟩ := ih pv j (by simpa using h) (by simpa using h')
        simp only [moCells, List.getElem_cons_succ]
        refine ⟨?_, ?_⟩
        · rw [show (j + 1) * 2 = j * 2 + 1 + 1 by omega]; simpa using e1
        · rw [show (j + 1) * 2 + 1 = (j * 2 + 1) + 1 + 1 by omega]; simpa using e2
def SmallM (ms : List (List Nat × Nat)) : Prop := ms.length ≤ 100 ∧ ∀ m ∈ ms, (∀ n ∈ m.1, n < 100) ∧ m.1.length ≤ 10 ∧ m.2 < 100
/-- Moves all of whose blocks lie below base. -/
def MovesIn (base B : Nat) (w : World) (v : Value) (ms : List (List Nat × Nat)) : Prop := ∃ pv, w.ownsRow B 142 2 v ms.length (moCells ms pv) ∧ (∀ k, v.ownBlock = some k → k < base) ∧ pv.length = ms.length ∧ ∀ i (h : i < ms.length) (h' : i < pv.length), w.ownsRow B 3 1 pv[i] ms[i].1.length (intV ms[i].1) ∧ ∀ k, pv[i].ownBlock = some k → k < base
theorem MovesIn.wrote {base b B : Nat} {w w' : World} {v : Value} {ms : List (List Nat × Nat)} (h : MovesIn base B w v ms) (k : Wrote base b w w') : MovesIn base B w' v ms := by
  obtain ⟨pv, h1, h2, h3, h4⟩ := h
  exact ⟨pv, k.row h1 (fun j e s => by have := h2 j e; omega), h2, h3, fun i a c => ⟨k.row (h4 i a c).1 (fun j e s => by have := (h4 i a c).2 j e; omega), (h4 i a c).2⟩⟩
theorem MovesAt.low {B : Nat} {w : World} {v : Value} {ms : List (List Nat × Nat)} (h : MovesAt B w v ms) : MovesIn w.heap.size B w v ms := by
  obtain ⟨pv, h1, h2, h3⟩ := h
  exact ⟨pv, h1, fun k e => (own_ge h1 e).2, h2, fun i a c => ⟨(h3 i a c).1, fun k e => (own_ge (h3 i a c).1 e).2⟩⟩
theorem local_kept {base b i : Nat} {w w' : World} {cs : Array Value} {T : TypeId} (k : Wrote base b w w') (h : w.heap[i]? = some (.cells cs T (0, 0))) (hT : T ≠ 5) (hi : i ≠ b) : w'.heap[i]? = some (.cells cs T (0, 0)) := by
  refine Kept.at k h (fun e => ?_)
  rcases e.2 with e | ⟨cur, fr, e⟩
  · exact hi e
  · rw [h] at e; cases e; exact hT rfl
set_option maxHeartbeats 4000000 in
theorem wmoves {base b B : Nat} {l : List UInt8} {w : World} (h : WrB base b l w) {v : Value} {ms : List (List Nat × Nat)} (hM : MovesIn base B w v ms) (hs : SmallM ms) (hlen : l.length ≤ 1000) (hBw : base ≤ w.heap.size) :
    Calls Tryz.prog 47 #[.pointer (some ⟨b, 0, none⟩), v] w fun e w' => e = .returned (.tuple #[]) ∧ WrB base b (l ++ movesT ms) w' ∧ Wrote base b w w' := by
  obtain ⟨ao, cap, rfl⟩ : ∃ ao cap, v = .slice ao ms.length cap := by obtain ⟨pv, h1, _⟩ := hM; exact row_shape h1
  have HB : Hid (WrB base b l w) := h
  have HS : Hid (SmallM ms) := hs
  have hms := hs.1
  have HM : Hid (MovesIn base B w (.slice ao ms.length cap) ms) := hM
  clear h hM hs
  go_enter Tryz.func47, Tryz.ntmps47
  go_wp2_with fail
  go_loopw [8] (fun x wr => ∃ k : Nat, x = .int .i64 (k : Int) ∧ k ≤ ms.length ∧ WrB base b (l ++ joinT [44, 32] ((ms.take k).map moveT)) wr ∧ Wrote base b w wr ∧ (joinT [44, 32] ((ms.take k).map moveT)).length ≤ k * 50) (fun x _ => ms.length - (intOf x).toNat)
  case atStart => exact ⟨0, rfl, Nat.zero_le _, by simpa [joinT] using HB.out, Wrote.refl _ _ _, by simp [joinT]⟩
  case round =>
    obtain ⟨k, rfl, hk, hW, hK, hL⟩ := hrel
    by_cases hlt : k < ms.length
    · obtain ⟨pv, hr, hvo, hpl, hps⟩ := HM.out.wrote hK
      obtain ⟨g, cap', hv2, hb, hgl⟩ := hr.form (by omega)
      obtain ⟨rfl, _, rfl⟩ : ao = some ⟨g, 0, none⟩ ∧ ms.length = ms.length ∧ cap = cap' := by simpa using hv2
      obtain ⟨m0, m1⟩ := mo_at ms pv k hlt (by omega)
      have q0 := hr.cellAt (k * 2) (by omega)
      have q1 := hr.cellAt (k * 2 + 1) (by omega)
      rw [m0] at q0; rw [m1] at q1
      obtain ⟨hp1, hpo⟩ := hps k hlt (by omega)
      obtain ⟨s1, s2, s3⟩ := HS.out.2 ms[k] (List.getElem_mem hlt)
      obtain ⟨pk, hpk⟩ : ∃ v, v = pv[k]'(by omega) := ⟨_, rfl⟩
      rw [← hpk] at q0 hp1 hpo
      obtain ⟨m, hm⟩ : ∃ m, m = ms[k] := ⟨_, rfl⟩
      rw [← hm] at q1 hp1 s1 s2 s3
      obtain ⟨pao, pc, rfl⟩ : ∃ ao cap, pk = .slice ao m.1.length cap := row_shape hp1
      have hsz := hK.size
      have hbw := hW.lt
      have kA : Same0 wr (wr.alloc (.cells #[.slice pao m.1.length pc, .int .i64 (m.2 : Int)] 142)) := Kept.alloc (Kept.refl _ wr) _
      have hloc := heap_alloc_new wr (.cells #[.slice pao m.1.length pc, .int .i64 (m.2 : Int)] 142)
      have hsA := kA.size
      have cB := wbetween (hW.same kA) k ⟨#[44, 32]⟩ (by decide) (by rw [List.length_append]; omega) (by omega)
      have hpt := pathT_len s1 s2
      have hs1 : (if k = 0 then ([] : List UInt8) else (⟨#[44, 32]⟩ : ByteArray).data.toList).length ≤ 2 := by split <;> simp
      obtain ⟨T1, hT1⟩ : ∃ T1, T1 = l ++ joinT [44, 32] ((ms.take k).map moveT) ++ (if k = 0 then [] else (⟨#[44, 32]⟩ : ByteArray).data.toList) := ⟨_, rfl⟩
      have hT1l : T1.length ≤ 1000 + k * 50 + 2 := by rw [hT1, List.length_append, List.length_append]; omega
      have HE : Hid (l ++ joinT [44, 32] ((ms.take (k + 1)).map moveT) = T1 ++ pathT m.1 ++ [58] ++ Lib.decDigits m.2) := by
        show _ = _
        rw [List.take_succ_eq_append_getElem hlt, List.map_append, List.map_cons, List.map_nil, joinT_snoc, ← hm, hT1]
        have : (List.map moveT (ms.take k)).length = k := by simp; omega
        rw [this]
        simp [moveT]
      have HL2 : Hid ((joinT [44, 32] ((ms.take (k + 1)).map moveT)).length ≤ (k + 1) * 50) := by
        have h1 := congrArg List.length HE.out
        have hd := dec_len (u := m.2) (k := 1) (by omega)
        have hj : (joinT [44, 32] ((ms.take k).map moveT) ++ (if k = 0 then [] else (⟨#[44, 32]⟩ : ByteArray).data.toList)).length ≤ k * 50 + 2 := by rw [List.length_append]; omega
        rw [hT1] at h1
        simp only [List.length_append, List.length_cons, List.length_nil] at h1 hj
        show _ ≤ _
        omega
      rw [← hT1] at cB
      have cP : Hid (∀ w1, WrB base b T1 w1 → Wrote base b (wr.alloc (.cells #[.slice pao m.1.length pc, .int .i64 (m.2 : Int)] 142)) w1 → Calls Tryz.prog 76 #[.pointer (some ⟨b, 0, none⟩), .slice pao m.1.length pc] w1 fun e w' => e = .returned (.tuple #[]) ∧ WrB base b (T1 ++ pathT m.1) w' ∧ Wrote base b w1 w') := fun w1 h1 h2 => wpath h1 (row_wrote h2 (kA.row hp1 (fun _ _ f => f)) hpo) hpo s1 (by omega) (by have := h2.size; omega)
      have d1 : (k : Int) < (ms.length : Int) := by omega
      clear hr hv2 m0 m1 hpk hm hT1 hW hL hp1 hs1 hps
      go_wp2_with (first | (go_at_call 65; refine cB.mono ?_; rintro e w1 ⟨rfl, h1, h2⟩; have l1 := local_kept h2 hloc (by decide) (by omega); have y0 := cellAt l1 0; have hz1 := h2.size; simp only [List.getElem?_toArray, List.getElem?_cons_zero] at y0) | (go_at_call 76; refine (cP.out _ h1 h2).mono ?_; rintro e w2 ⟨rfl, h3, h4⟩; have l2 := local_kept h4 l1 (by decide) (by omega); have hz2 := h4.size; have cW := wwrite_any h3 ⟨#[58]⟩ (by rw [List.length_append]; have hx : (⟨#[58]⟩ : ByteArray).size = 1 := rfl; omega) (by omega)) | (go_at_call 63; refine cW.mono ?_; rintro e w3 ⟨rfl, h5, h6⟩; have l3 := local_kept h6 l2 (by decide) (by omega); have y1 := cellAt l3 1; have hz3 := h6.size; simp only [List.getElem?_toArray, List.getElem?_cons_zero, List.getElem?_cons_succ] at y1; have cN := wnumber_small h5 m.2 s3 (by simp only [List.length_append, List.length_cons, List.length_nil]; omega) (by omega)) | (go_at_call 64; refine cN.mono ?_; rintro e w4 ⟨rfl, h7, h8⟩))
      go_roundw
      case rel => exact ⟨k + 1, by go_num, by omega, by rw [HE.out]; exact h7, ((((hK.trans (Wrote.of_same kA)).trans h2).trans h4).trans h6).trans h8, HL2.out⟩
      case measure => simp [intOf]; omega
    · obtain rfl : k = ms.length := by omega
      have d1 : ¬ ((ms.length : Int) < (ms.length : Int)) := by omega
      have HW : Hid (WrB base b (l ++ movesT ms) wr) := by rw [List.take_length] at hW; exact hW
      clear hW hL
      go_wp2_with fail
      go_end0
      exact ⟨rfl, HW.out, hK⟩
set_option maxHeartbeats 2000000 in
theorem printMoves_small {B : Nat} {w : World} {v : Value} {ms : List (List Nat × Nat)} (hM : MovesAt B w v ms) (hs : SmallM ms) (hne : movesT ms ≠ []) :
    Calls Tryz.prog 18 #[v] w fun e w' => e = .returned (.string ⟨(movesT ms).toArray⟩) ∧ Same0 w w' := by
  have k0 : Same0 w (w.alloc (.cells #[.pointer none, .slice none 0 0] 77)) := Kept.alloc (Kept.refl _ w) _
  have hW : WrB w.heap.size w.heap.size [] (w.alloc (.cells #[.pointer none, .slice none 0 0] 77)) := .inl ⟨Nat.le_refl _, .slice none 0 0, heap_alloc_new w _, ⟨rfl, .inl ⟨rfl, rfl⟩⟩, by simp [Value.ownBlock]⟩
  have hMI : MovesIn w.heap.size B (w.alloc (.cells #[.pointer none, .slice none 0 0] 77)) v ms := hM.low.wrote (b := w.heap.size) (Wrote.of_same k0)
  have cM := wmoves hW hMI hs (by simp) k0.size
  clear hM hs hW hMI
  go_enter Tryz.func18, Tryz.ntmps18
  go_wp2_with (first | (go_at_call 47; refine cM.mono ?_; rintro e w1 ⟨rfl, h1, h2⟩) | (go_at_call 48; refine (wstring_any h1 hne).mono ?_; rintro e w2 ⟨rfl, h3⟩))
  go_ret
  refine ⟨rfl, ?_⟩
  have h4 : Below w.heap.size w w1 := Kept.below ((Kept.mono k0 (fun _ _ f => f.elim)).trans (S := fun i => w.heap.size ≤ i) h2 (fun _ _ e => e.1)) (Nat.le_refl _) (fun k hk e => by omega)
  exact Same0.of_below (h4.trans h3)
end Go.Proofs.YtbjfpfnfbgncnaaGreatDoor
