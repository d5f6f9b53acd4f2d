/- The walks of package sig: what New, has, Len, Find, refusal and At do to a signature. -/
import Derived.Test.YthhcnllabhfejaaSigPlain
import Derived.Test.YthhcnllabhfejaaNames
import Derived.WalkLawsBesides
namespace Go.Proofs.Ythhcnllabhfejaa
set_option maxRecDepth 100000
open Go.RowKit
set_option maxHeartbeats 400000 in
theorem new_any (w : World) : Calls Try.prog 21 #[] w fun e w' => e = .returned (.pointer (some ⟨w.heap.size, 0, none⟩)) ∧ w' = w.alloc (.cells #[.slice none 0 0, .map none] 73) := by
  go_enter Try.func21, Try.ntmps21
  go_wp2
  go_ret
  exact ⟨rfl, rfl⟩
theorem sig_new (w : World) : SigAt (w.alloc (.cells #[.slice none 0 0, .map none] 73)) w.heap.size [] (.slice none 0 0) none :=
  ⟨heap_alloc_new w _, World.ownsRow_nil _ _ _ _, rfl, by simp [Value.ownBlock], by simp, by simp⟩
set_option maxHeartbeats 400000 in
theorem has_any {w : World} {b : Nat} {L : List Sym} {sv : Value} {mr : Option Nat} (h : SigAt w b L sv mr) (s : ByteArray) (hs : s.size ≤ maxLen) :
    Calls Try.prog 51 #[.pointer (some ⟨b, 0, none⟩), .string s] w fun e w' => e = .returned (.bool (findI L s).isSome) ∧ w' = w := by
  have c1 : w.cell? ⟨b, 1, none⟩ = some (.map mr) := cellAt h.blk 1
  have hl := h.map.look hs
  go_enter Try.func51, Try.ntmps51
  go_wp2
  go_ret
  exact ⟨rfl, rfl⟩
set_option maxHeartbeats 400000 in
theorem len_any {w : World} {b : Nat} {L : List Sym} {sv : Value} {mr : Option Nat} (h : SigAt w b L sv mr) :
    Calls Try.prog 52 #[.pointer (some ⟨b, 0, none⟩)] w fun e w' => e = .returned (.int .i64 (L.length : Int)) ∧ w' = w := by
  obtain ⟨ao, cap, rfl⟩ := h.sv
  have c0 : w.cell? ⟨b, 0, none⟩ = some (.slice ao L.length cap) := cellAt h.blk 0
  go_enter Try.func52, Try.ntmps52
  go_wp2
  go_ret
  exact ⟨rfl, rfl⟩
set_option maxHeartbeats 1000000 in
theorem refusal_any {w : World} {b : Nat} {L : List Sym} {sv : Value} {mr : Option Nat} (h : SigAt w b L sv mr) (x : Sym) (hs : x.name.size ≤ maxLen) :
    Calls Try.prog 33 #[.pointer (some ⟨b, 0, none⟩), .agg #[.string x.name, .int .i64 x.ar, .bool x.df]] w fun e w' => e = .returned (.int .i64 (addErr L x)) ∧ w' = w.alloc (.cells #[.string x.name, .int .i64 x.ar, .bool x.df] 48) := by
  have h1 : SigAt (w.alloc (.cells #[.string x.name, .int .i64 x.ar, .bool x.df] 48)) b L sv mr := h.kept (Kept.alloc (Kept.refl (fun _ => False) w) _) (fun _ _ f => f)
  have hlen := h.len
  cases hn : nameB x.name with
  | false =>
    have he : addErr L x = 10 := by simp [addErr, hn]
    go_enter Try.func33, Try.ntmps33
    go_wp2_with (first | (go_at_call 50; refine (isName_any _ _ hs).mono ?_; rintro e w' ⟨rfl, rfl⟩))
    go_ret
    exact ⟨ret_int he.symm, rfl⟩
  | true =>
    by_cases ha : x.ar < 0
    · have he : addErr L x = 11 := by simp [addErr, hn, ha]
      go_enter Try.func33, Try.ntmps33
      go_wp2_with (first | (go_at_call 50; refine (isName_any _ _ hs).mono ?_; rintro e w' ⟨rfl, rfl⟩))
      go_ret
      exact ⟨ret_int he.symm, rfl⟩
    · by_cases hb : 6 < x.ar
      · have he : addErr L x = 11 := by simp [addErr, hn, hb]
        go_enter Try.func33, Try.ntmps33
        go_wp2_with (first | (go_at_call 50; refine (isName_any _ _ hs).mono ?_; rintro e w' ⟨rfl, rfl⟩))
        go_ret
        exact ⟨ret_int he.symm, rfl⟩
      · cases hf : (findI L x.name).isSome with
        | true =>
          have he : addErr L x = 12 := by simp [addErr, hn, ha, hb, hf]
          go_enter Try.func33, Try.ntmps33
          go_wp2_with (first | (go_at_call 50; refine (isName_any _ _ hs).mono ?_; rintro e w' ⟨rfl, rfl⟩) | (go_at_call 51; refine (has_any h1 _ hs).mono ?_; rintro e w' ⟨rfl, rfl⟩))
          go_ret
          exact ⟨ret_int he.symm, rfl⟩
        | false =>
          by_cases hm : 64 ≤ L.length
          · have he : addErr L x = 13 := by simp [addErr, hn, ha, hb, hf, hm]
            go_enter Try.func33, Try.ntmps33
            go_wp2_with (first | (go_at_call 50; refine (isName_any _ _ hs).mono ?_; rintro e w' ⟨rfl, rfl⟩) | (go_at_call 51; refine (has_any h1 _ hs).mono ?_; rintro e w' ⟨rfl, rfl⟩) | (go_at_call 52; refine (len_any h1).mono ?_; rintro e w' ⟨rfl, rfl⟩))
            go_ret
            exact ⟨ret_int he.symm, rfl⟩
          · have he : addErr L x = 0 := by simp [addErr, hn, ha, hb, hf, hm]
            go_enter Try.func33, Try.ntmps33
            go_wp2_with (first | (go_at_call 50; refine (isName_any _ _ hs).mono ?_; rintro e w' ⟨rfl, rfl⟩) | (go_at_call 51; refine (has_any h1 _ hs).mono ?_; rintro e w' ⟨rfl, rfl⟩) | (go_at_call 52; refine (len_any h1).mono ?_; rintro e w' ⟨rfl, rfl⟩))
            go_ret
            exact ⟨ret_int he.symm, rfl⟩
end Go.Proofs.Ythhcnllabhfejaa
