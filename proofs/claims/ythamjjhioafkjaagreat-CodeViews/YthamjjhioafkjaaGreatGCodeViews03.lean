import Derived.Test.YthamjjhioafkjaaGreatGCodeViews01
import Derived.Test.YthamjjhioafkjaaGreatGCodeViews02
import Derived.WalkLawsBesides
import Derived.Deep.RegionLaw
import Derived.Deep.DeepCutAuto
import Derived.Deep.DrawnRows
namespace Go.Proofs.YthamjjhioafkjaaGreat
set_option maxRecDepth 100000
open Go.RowKit
set_option maxHeartbeats 400000 in
theorem new_any (w : World) : Calls Tryz.prog 50 #[] w fun e w' => e = .returned (.pointer (some ⟨w.heap.size,0,none⟩)) ∧ w' = w.alloc (.cells #[.slice none 0 0,.map none] 145) := by
  go_enter Tryz.func50, Tryz.ntmps50
  go_wp2
  go_ret
  exact ⟨rfl, rfl⟩
theorem sig_new (w : World) : SigAt (w.alloc (.cells #[.slice none 0 0,.map none] 145)) w.heap.size [] (.slice none 0 0) none :=
  ⟨heap_alloc_new w _, World.ownsRow_nil _ _ _ _, rfl, by simp [Value.ownBlock], by simp, by simp⟩
set_option maxHeartbeats 400000 in
theorem has_any {w : World} {b : Nat} {L : List Sym} {sv : Value} {mr : Option Nat} (h : SigAt w b L sv mr) (s : ByteArray) (hs : s.size ≤ maxLen) :
    Calls Tryz.prog 94 #[.pointer (some ⟨b,0,none⟩),.string s] w fun e w' => e = .returned (.bool (findI L s).isSome) ∧ w' = w := by
  have c1 : w.cell? ⟨b, 1, none⟩ = some (.map mr) := cellAt h.blk 1
  have hl := h.map.look hs
  go_enter Tryz.func94, Tryz.ntmps94
  go_wp2
  go_ret
  exact ⟨rfl, rfl⟩
set_option maxHeartbeats 400000 in
theorem len_any {w : World} {b : Nat} {L : List Sym} {sv : Value} {mr : Option Nat} (h : SigAt w b L sv mr) :
    Calls Tryz.prog 95 #[.pointer (some ⟨b,0,none⟩)] w fun e w' => e = .returned (.int .i64 (L.length : Int)) ∧ w' = w := by
  obtain ⟨ao, cap, rfl⟩ := h.sv
  have c0 : w.cell? ⟨b, 0, none⟩ = some (.slice ao L.length cap) := cellAt h.blk 0
  go_enter Tryz.func95, Tryz.ntmps95
  go_wp2
  go_ret
  exact ⟨rfl, rfl⟩
set_option maxHeartbeats 1000000 in
theorem refusal_any {w : World} {b : Nat} {L : List Sym} {sv : Value} {mr : Option Nat} (h : SigAt w b L sv mr) (x : Sym) (hs : x.name.size ≤ maxLen) :
    Calls Tryz.prog 59 #[.pointer (some ⟨b,0,none⟩),.agg #[.string x.name,.int .i64 x.ar,.bool x.df]] w fun e w' => e = .returned (.int .i64 (addErr L x)) ∧ w' = w.alloc (.cells #[.string x.name,.int .i64 x.ar,.bool x.df] 82) := by
  have h1 : SigAt (w.alloc (.cells #[.string x.name, .int .i64 x.ar, .bool x.df] 82)) b L sv mr := h.kept (Kept.alloc (Kept.refl (fun _ => False) w) _) (fun _ _ f => f)
  have hlen := h.len
  cases hn : nameB x.name with
  | false =>
    have he : addErr L x = 10 := by simp [addErr, hn]
    go_enter Tryz.func59, Tryz.ntmps59
    go_wp2_with (first | (go_at_call 93; refine (isName_any _ _ hs).mono ?_; rintro e w' ⟨rfl, rfl⟩))
    go_ret
    exact ⟨ret_int he.symm, rfl⟩
  | true =>
    by_cases ha : x.ar < 0
    · have he : addErr L x = 11 := by simp [addErr, hn, ha]
      go_enter Tryz.func59, Tryz.ntmps59
      go_wp2_with (first | (go_at_call 93; refine (isName_any _ _ hs).mono ?_; rintro e w' ⟨rfl, rfl⟩))
      go_ret
      exact ⟨ret_int he.symm, rfl⟩
    · by_cases hb : 6 < x.ar
      · have he : addErr L x = 11 := by simp [addErr, hn, hb]
        go_enter Tryz.func59, Tryz.ntmps59
        go_wp2_with (first | (go_at_call 93; refine (isName_any _ _ hs).mono ?_; rintro e w' ⟨rfl, rfl⟩))
        go_ret
        exact ⟨ret_int he.symm, rfl⟩
      · cases hf : (findI L x.name).isSome with
        | true =>
          have he : addErr L x = 12 := by simp [addErr, hn, ha, hb, hf]
          go_enter Tryz.func59, Tryz.ntmps59
          go_wp2_with (first | (go_at_call 93; refine (isName_any _ _ hs).mono ?_; rintro e w' ⟨rfl, rfl⟩) | (go_at_call 94; refine (has_any h1 _ hs).mono ?_; rintro e w' ⟨rfl, rfl⟩))
          go_ret
          exact ⟨ret_int he.symm, rfl⟩
        | false =>
          by_cases hm : 64 ≤ L.length
          · have he : addErr L x = 13 := by simp [addErr, hn, ha, hb, hf, hm]
            go_enter Tryz.func59, Tryz.ntmps59
            go_wp2_with (first | (go_at_call 93; refine (isName_any _ _ hs).mono ?_; rintro e w' ⟨rfl, rfl⟩) | (go_at_call 94; refine (has_any h1 _ hs).mono ?_; rintro e w' ⟨rfl, rfl⟩) | (go_at_call 95; refine (len_any h1).mono ?_; rintro e w' ⟨rfl, rfl⟩))
            go_ret
            exact ⟨ret_int he.symm, rfl⟩
          · have he : addErr L x = 0 := by simp [addErr, hn, ha, hb, hf, hm]
            go_enter Tryz.func59, Tryz.ntmps59
            go_wp2_with (first | (go_at_call 93; refine (isName_any _ _ hs).mono ?_; rintro e w' ⟨rfl, rfl⟩) | (go_at_call 94; refine (has_any h1 _ hs).mono ?_; rintro e w' ⟨rfl, rfl⟩) | (go_at_call 95; refine (len_any h1).mono ?_; rintro e w' ⟨rfl, rfl⟩))
            go_ret
            exact ⟨ret_int he.symm, rfl⟩
end Go.Proofs.YthamjjhioafkjaaGreat
namespace Go.Proofs.YthamjjhioafkjaaGreat
set_option maxRecDepth 100000
open Go.RowKit
def addL (L : List Sym) (x : Sym) : List Sym := if addErr L x = 0 then L ++ [x] else L
def addN (L : List Sym) (x : Sym) : Int := if addErr L x = 0 then (L.length : Int) else 0
def Moved (w : World) (b : Nat) (sv : Value) (mr : Option Nat) (L' : List Sym) (w' : World) : Prop :=
  ∃ sv' mr', SigAt w' b L' sv' mr' ∧ Kept (Foot b sv mr) w w' ∧ ∀ k, Foot b sv' mr' k → Foot b sv mr k ∨ w.heap.size ≤ k
abbrev boxOf (x : Sym) : Obj := .cells #[.string x.name, .int .i64 x.ar, .bool x.df] 82 (0, 0)
theorem map_empty (w : World) : MapIs (w.alloc (.map #[] 0)) (some w.heap.size) [] :=
  ⟨0, _, World.ownsMap_made w Tryz.prog _ _, Nat.le_refl _, fun s => ⟨rfl, fun i h => by simp [findI] at h⟩⟩
theorem eql_map (mr : Option Nat) (w : World) : (binOp .eql 143 (.map mr) (.map none)).run Tryz.prog w = .ok (.bool mr.isNone) w := by
  cases mr <;> kernel_rfl
theorem sig_mapped {W : World} {b : Nat} {L : List Sym} {sv : Value} (h : SigAt W b L sv none) : SigAt ((W.alloc (.map #[] 0)).setCell ⟨b,1,none⟩ (.map (some W.heap.size))) b L sv (some W.heap.size) := by
  obtain rfl : L = [] := h.map
  have hb := lt_of_at h.blk
  have h3 : SigAt (W.alloc (.map #[] 0)) b [] sv none := h.kept (Kept.alloc (Kept.refl (fun _ => False) _) _) (fun _ _ f => f)
  have hk : Kept (fun k => k = b) (W.alloc (.map #[] 0)) ((W.alloc (.map #[] 0)).setCell ⟨b, 1, none⟩ (.map (some W.heap.size))) := Kept.setCell (S := fun k => k = b) (p := ⟨b, 1, none⟩) (Kept.refl _ _) (fun _ => rfl) _
  exact ⟨by rw [setAt h3.blk]; rfl, hk.row h3.row (fun k e e' => h.apart (by rw [e, e'])), (map_empty W).kept hk (fun k e e' => by simp at e; omega), h.apart, h.len, h.names⟩
theorem add_zero {L : List Sym} {x : Sym} (h : addErr L x = 0) : findI L x.name = none ∧ nameB x.name = true ∧ L.length < 64 := by
  unfold addErr at h
  by_cases h1 : nameB x.name = false
  · simp [h1] at h
  · rw [if_neg h1] at h
    by_cases h2 : x.ar < 0 ∨ 6 < x.ar
    · simp [h2] at h
    · rw [if_neg h2] at h
      by_cases h3 : (findI L x.name).isSome
      · simp [h3] at h
      · rw [if_neg h3] at h
        by_cases h4 : 64 ≤ L.length
        · simp [h4] at h
        · exact ⟨by simpa using h3, by simpa using h1, by omega⟩
theorem add_ar {L : List Sym} {x : Sym} (h : addErr L x = 0) : 0 ≤ x.ar ∧ x.ar ≤ 6 := by
  unfold addErr at h
  by_cases h1 : nameB x.name = false
  · simp [h1] at h
  · rw [if_neg h1] at h
    by_cases h2 : x.ar < 0 ∨ 6 < x.ar
    · simp [h2] at h
    · omega
theorem blk_grown {w w1 : World} {o ob : Obj} {b : Nat} {v : Value} (hg : (w.alloc o).drew.grownBy w1 v.ownBlock) (hb : w.heap[b]? = some ob) (hne : v.ownBlock ≠ some b) : w1.heap[b]? = some ob := by
  have hlt := lt_of_at hb
  rw [hg.block b (by simp; omega) (Ne.symm hne)]
  exact (heap_alloc_old w o hlt).trans hb
def AddMid (w : World) (b : Nat) (L : List Sym) (sv : Value) (mr : Option Nat) (bm : Nat) (x : Sym) (w' : World) : Prop :=
  ∃ sv', w'.heap[b]? = some (.cells #[sv', .map (some bm)] 145 (0, 0)) ∧ w'.ownsRow 0 82 3 sv' (L.length + 1) (symCells (L ++ [x])) ∧ MapIs w' (some bm) L ∧ w'.heap[w.heap.size]? = some (boxOf x) ∧ Kept (Foot b sv mr) w w' ∧ ∀ k, sv'.ownBlock = some k → k ≠ b ∧ (sv.ownBlock = some k ∨ w.heap.size ≤ k)
theorem add_mid {w wc w1 : World} {b : Nat} {L : List Sym} {sv : Value} {mr : Option Nat} {x : Sym} {bm gg cap : Nat} (h : SigAt w b L sv mr) (hsg : SigAt wc b L sv (some bm)) (hbx : wc.heap[w.heap.size]? = some (boxOf x)) (hkp : Kept (Foot b sv mr) w wc)
    (hown1 : w1.ownsRow 0 82 3 (.slice (some ⟨gg, 0, none⟩) (L.length + 1) cap) (L.length + 1) (symCells L ++ [.string x.name, .int .i64 x.ar, .bool x.df]))
    (hgrow : (wc.alloc (boxOf x)).drew.grownBy w1 sv.ownBlock) (hat : sv.ownBlock = some gg ∨ gg = wc.heap.size + 1) (hb1 : w1.heap[b]? = some (.cells #[sv, .map (some bm)] 145 (0, 0))) :
    AddMid w b L sv mr bm x (w1.setCell ⟨b, 0, none⟩ (.slice (some ⟨gg, 0, none⟩) (L.length + 1) cap)) := by
  have lb := lt_of_at h.blk
  have lbc := lt_of_at hsg.blk
  have lsv := h.row.lt
  have hgb : gg ≠ b := by
    rcases hat with e | e
    · intro e'; exact hsg.apart (by rw [e, e'])
    · omega
  obtain ⟨n, D, hm, hn, hall⟩ := hsg.map
  obtain ⟨es, clock, hbm, hrest⟩ := hm
  have hbmb : bm ≠ b := fun e => by subst e; rw [hsg.blk] at hbm; simp at hbm
  have hbms : sv.ownBlock ≠ some bm := fun e => by
    rcases hsg.row.2 with ⟨rfl, _⟩ | ⟨g, c, cur, rfl, _, hg, _⟩
    · simp [Value.ownBlock] at e
    · simp [Value.ownBlock] at e; subst e; rw [hg] at hbm; simp at hbm
  have hk1 : Kept (fun k => sv.ownBlock = some k) wc w1 := Kept.grown (Kept.drew (Kept.alloc (Kept.refl _ wc) _)) hgrow (fun _ e _ => e)
  have hk2 : Kept (fun k => sv.ownBlock = some k ∨ k = b) wc (w1.setCell ⟨b, 0, none⟩ (.slice (some ⟨gg, 0, none⟩) (L.length + 1) cap)) :=
    Kept.setCell (hk1.mono (fun _ _ e => .inl e)) (fun _ => .inr rfl) _
  have hk3 : Kept (fun k => k = b) w1 (w1.setCell ⟨b, 0, none⟩ (.slice (some ⟨gg, 0, none⟩) (L.length + 1) cap)) := Kept.setCell (S := fun k => k = b) (p := ⟨b, 0, none⟩) (Kept.refl _ _) (fun _ => rfl) _
  refine ⟨_, by rw [setAt hb1]; rfl, ?_, ?_, ?_, ?_, ?_⟩
  · rw [symCells_snoc]; exact hk3.row hown1 (fun k e e' => by simp [Value.ownBlock] at e; omega)
  · exact ⟨n, D, hk2.map ⟨es, clock, hbm, hrest⟩ (fun e => e.elim hbms hbmb), hn, hall⟩
  · exact hk2.at hbx (fun e => by
      rcases e with e | e
      · have := lsv _ e; omega
      · omega)
  · exact hkp.trans hk2 (fun i _ e => e.elim (fun e => .inr (.inl e)) .inl)
  · intro k e
    simp [Value.ownBlock] at e
    subst e
    refine ⟨hgb, hat.imp id (fun e => ?_)⟩
    have := hkp.size
    omega
theorem map_put {w w' : World} {bm : Nat} {L : List Sym} {x : Sym} {n : Nat} {D : DataW Unit} (hf : findI L x.name = none) (hm : w.ownsMap Tryz.prog 9 (plainElem Tryz.prog 3) bm n D) (hn : n ≤ L.length)
    (hall : ∀ s : ByteArray, Maps.has D (.string s.data.toList) = (findI L s).isSome ∧ ∀ i, findI L s = some i → D.atKey (.string s.data.toList) (.lit (.int .i64 0)) = .lit (.int .i64 (i : Int)))
    (hm' : w'.ownsMap Tryz.prog 9 (plainElem Tryz.prog 3) bm (n + 1) (D.put (.string x.name.data.toList) (.lit (.int .i64 (L.length : Int))))) : MapIs w' (some bm) (L ++ [x]) := by
  refine ⟨n + 1, _, hm', by simp; omega, fun s => ?_⟩
  have hk : WideAt.IsKeyLit (.string x.name.data.toList) := trivial
  rw [findI_snoc]
  by_cases hs : x.name = s
  · subst hs
    rw [hf, Maps.has_put_same hm.isMap hk, Maps.atKey_put_same hm.isMap hk]
    simp
  · have hne : Lit.string s.data.toList ≠ Lit.string x.name.data.toList := by
      intro e
      apply hs
      have e1 : s.data.toList = x.name.data.toList := by simpa using e
      have e2 : s.data = x.name.data := Array.toList_inj.1 e1
      cases s; cases hx : x.name; simp_all
    rw [Maps.has_put_other hne, Maps.atKey_put_other hne, (hall s).1]
    cases hfs : findI L s with
    | none => simp [hs]
    | some i => simpa using (hall s).2 i hfs
theorem row_not_map {w : World} {e : TypeId} {v : Value} {n : Nat} {xs : List Value} {bm : Nat} {es : Array MapEntry} {clock : Nat} (hr : w.ownsRow 0 e 3 v n xs) (hb : w.heap[bm]? = some (.map es clock)) : v.ownBlock ≠ some bm := fun e => by
  rcases hr.2 with ⟨rfl, _⟩ | ⟨g, c, cur, rfl, _, hg, _⟩
  · simp [Value.ownBlock] at e
  · simp [Value.ownBlock] at e; subst e; rw [hg] at hb; simp at hb
theorem add_end {w wc w2 : World} {b : Nat} {L : List Sym} {sv sv' : Value} {mr : Option Nat} {x : Sym} {bm n : Nat} {D : DataW Unit} (h : SigAt w b L sv mr) (hz : addErr L x = 0) (hb : wc.heap[b]? = some (.cells #[sv', .map (some bm)] 145 (0,0)))
    (hrow : wc.ownsRow 0 82 3 sv' (L.length + 1) (symCells (L ++ [x]))) (hkp : Kept (Foot b sv mr) w wc) (hft : ∀ k, sv'.ownBlock = some k → k ≠ b ∧ (sv.ownBlock = some k ∨ w.heap.size ≤ k))
    (hm : wc.ownsMap Tryz.prog 9 (plainElem Tryz.prog 3) bm n D) (hn : n ≤ L.length)
    (hall : ∀ s : ByteArray, Maps.has D (.string s.data.toList) = (findI L s).isSome ∧ ∀ i, findI L s = some i → D.atKey (.string s.data.toList) (.lit (.int .i64 0)) = .lit (.int .i64 (i : Int)))
    (hm2 : w2.ownsMap Tryz.prog 9 (plainElem Tryz.prog 3) bm (n + 1) (D.put (.string x.name.data.toList) (.lit (.int .i64 (L.length : Int)))))
    (hturn : wc.drew.mapTurned w2 bm) (hbm : mr = some bm ∨ w.heap.size ≤ bm) : Moved w b sv mr (L ++ [x]) w2 := by
  obtain ⟨hf, hnm, hlen⟩ := add_zero hz
  have hk : Kept (fun k => k = bm) wc w2 := Kept.grown (Kept.drew (Kept.refl _ wc)) hturn.grown (fun k e _ => by simpa using e.symm)
  have hbmb : b ≠ bm := by
    obtain ⟨es, clock, hb', _⟩ := hm
    intro e; subst e; rw [hb] at hb'; simp at hb'
  have hsb : sv'.ownBlock ≠ some bm := by
    obtain ⟨es, clock, hb', _⟩ := hm
    exact row_not_map hrow hb'
  refine ⟨sv', some bm, ⟨hk.at hb hbmb, ?_, map_put hf hm hn hall hm2, fun e => (hft b e).1 rfl, by simp; omega, ?_⟩, ?_, ?_⟩
  · have := hk.row hrow (fun k e e' => hsb (by rw [e, e']))
    simpa using this
  · intro y hy
    rcases List.mem_append.1 hy with hy | hy
    · exact h.names y hy
    · simp at hy; subst hy; exact hnm
  · refine hkp.trans hk (fun i hi e => ?_)
    subst e
    rcases hbm with e | e
    · exact .inr (.inr e)
    · omega
  · intro k hk'
    rcases hk' with e | e | e
    · exact .inl (.inl e)
    · exact (hft k e).2.imp (fun e => .inr (.inl e)) id
    · simp at e; subst e; exact hbm.imp (fun e => .inr (.inr e)) id
set_option maxHeartbeats 1000000 in
theorem add_ok {w : World} {b : Nat} {L : List Sym} {sv : Value} {mr : Option Nat} (h : SigAt w b L sv mr) (x : Sym) (hs : x.name.size ≤ maxLen) (hz : addErr L x = 0) :
    Calls Tryz.prog 27 #[.pointer (some ⟨b,0,none⟩),.agg #[.string x.name,.int .i64 x.ar,.bool x.df]] w fun e w' => e = .returned (.tuple #[.int .i64 (L.length : Int),.int .i64 0]) ∧ Moved w b sv mr (L ++ [x]) w' := by
  obtain ⟨ao, cap, rfl⟩ := h.sv
  have h1 : SigAt (w.alloc (boxOf x)) b L (.slice ao L.length cap) mr := h.kept (Kept.alloc (Kept.refl (fun _ => False) w) _) (fun _ _ f => f)
  have h2 : SigAt ((w.alloc (boxOf x)).alloc (boxOf x)) b L (.slice ao L.length cap) mr := h1.kept (Kept.alloc (Kept.refl (fun _ => False) _) _) (fun _ _ f => f)
  have c1 : ((w.alloc (boxOf x)).alloc (boxOf x)).cell? ⟨b, 1, none⟩ = some (.map mr) := cellAt h2.blk 1
  have f1 : ((w.alloc (boxOf x)).alloc (boxOf x)).frozen? ⟨b, 1, none⟩ = false := frozenAt h2.blk 1
  have h2box : ((w.alloc (boxOf x)).alloc (boxOf x)).heap[w.heap.size]? = some (boxOf x) := by rw [heap_alloc_old _ _ (by simp)]; exact heap_alloc_new w _
  have h3 : SigAt (((w.alloc (boxOf x)).alloc (boxOf x)).alloc (.map #[] 0)) b L (.slice ao L.length cap) mr := h2.kept (Kept.alloc (Kept.refl (fun _ => False) _) _) (fun _ _ f => f)
  have c3 : (((w.alloc (boxOf x)).alloc (boxOf x)).alloc (.map #[] 0)).cell? ⟨b, 1, none⟩ = some (.map mr) := cellAt h3.blk 1
  have f3 : (((w.alloc (boxOf x)).alloc (boxOf x)).alloc (.map #[] 0)).frozen? ⟨b, 1, none⟩ = false := frozenAt h3.blk 1
  have hmm := @run_makeMap Tryz.prog
  have hem := eql_map
  go_enter Tryz.func27, Tryz.ntmps27
  go_upto_if 18 with (first | (go_at_call 59; refine (refusal_any h1 x hs).mono ?_; rintro e w' ⟨rfl, rfl⟩))
  go_cut [] (fun w' => ∃ bm, SigAt w' b L (.slice ao L.length cap) (some bm) ∧ w'.heap[w.heap.size]? = some (boxOf x) ∧ Kept (Foot b (.slice ao L.length cap) mr) w w' ∧ (mr = some bm ∨ w.heap.size ≤ bm))
  case first =>
    cases mr with
    | some bm =>
      go_wp2
      go_meet
      case rel => exact ⟨bm, h2, h2box, Kept.alloc (Kept.alloc (Kept.refl _ w) _) _, .inl rfl⟩
    | none =>
      go_wp2
      go_meet
      case rel =>
        refine ⟨w.heap.size + 1 + 1, ?_, ?_, ?_, .inr (by omega)⟩
        · simpa using sig_mapped h2
        · rw [Below.heap_setCell _ _ _ _ (by have := lt_of_at h.blk; simp; omega), heap_alloc_old _ _ (by simp; omega)]; exact h2box
        · exact Kept.setCell (Kept.alloc (Kept.alloc (Kept.alloc (Kept.refl _ w) _) _) _) (fun _ => .inl rfl) _
  case rest =>
    obtain ⟨bm, hsg, hbx, hkp, hbm⟩ := hcut
    have d0 : wc.cell? ⟨b, 0, none⟩ = some (.slice ao L.length cap) := cellAt hsg.blk 0
    go_upto_region 7 with fail
    go_cut [] (fun w' => AddMid w b L (.slice ao L.length cap) mr bm x w')
    case first =>
      obtain ⟨i0, hi0, hz0, hz1, hz2⟩ := info_parts info_Symbol
      have hn1 : L.length + 1 ≤ maxLen := by have := h.len; unfold maxLen; omega
      have hn2 : (L.length + 1) * 32 ≤ 140737488355328 := by have := h.len; omega
      have g0 : wc.frozen? ⟨b, 0, none⟩ = false := frozenAt hsg.blk 0
      have x0 : wc.cell? ⟨w.heap.size, 0, none⟩ = some (.string x.name) := cellAt hbx 0
      have x1 : wc.cell? ⟨w.heap.size, 1, none⟩ = some (.int .i64 x.ar) := cellAt hbx 1
      have x2 : wc.cell? ⟨w.heap.size, 2, none⟩ = some (.bool x.df) := cellAt hbx 2
      have d0' : (wc.alloc (boxOf x)).cell? ⟨b, 0, none⟩ = some (.slice ao L.length cap) := cellAt ((heap_alloc_old wc _ (lt_of_at hsg.blk)).trans hsg.blk) 0
      go_region_law ((refine step_append_lies _ (by rfl) _ _ _ (by rfl) 0 82 i0 _ 3 32 Tryz.underlying36 hi0 hz0 hz1 hz2 rfl (by omega) (.slice ao L.length cap) L.length (symCells L) (by rfl) ((hsg.row.alloc _).drew) ⟨wc.heap.size, 0, none⟩ 1 1 [.string x.name, .int .i64 x.ar, .bool x.df] (by rfl) (by rfl) (World.news_of_block (cs := #[.string x.name, .int .i64 x.ar, .bool x.df]) (t := 82) (fr := (0, 0)) (heap_alloc_new wc _)) (by simp [Value.oneCell']) (by omega) hn1 hn2 (by omega) (wc.heap.size + 1) (by simp) ?_; intro gg cap w1 hown1 hgrow hat hlt; have hb1 := blk_grown hgrow hsg.blk hsg.apart; have k0 := cellAt hb1 0; have k1 := frozenAt hb1 0; simp only [List.getElem?_toArray, List.getElem?_cons_zero] at k0))
      all_goals
        go_wp2
        go_meet
        case rel => exact add_mid h hsg hbx hkp hown1 hgrow hat hb1
    case rest =>
      obtain ⟨sv', hb, hrow, hmap, hbx, hkp, hft⟩ := hcut
      obtain ⟨n, D, hm, hn, hall⟩ := hmap
      have hsz : findI L x.name = none ∧ nameB x.name = true ∧ L.length < 64 := add_zero hz
      obtain ⟨w2, hrun, hm2, hturn⟩ := World.ownsMap.store (w := wc.drew) hm law_string Tryz.underlying143 (by have := hsz.2.2; unfold maxLen; omega) (key_str hs) (plainElem_int Tryz.underlying3 (a := (L.length : Int)) (WalkArith.wf_i64 (by have := hsz.2.2; omega)))
      have y0 : wc.cell? ⟨w.heap.size, 0, none⟩ = some (.string x.name) := cellAt hbx 0
      have y1 : wc.cell? ⟨b, 1, none⟩ = some (.map (some bm)) := cellAt hb 1
      go_wp2_with fail
      go_region
      all_goals
        go_wp2
        go_ret2
        exact ⟨rfl, add_end h hz hb hrow hkp hft hm hn hall hm2 hturn hbm⟩
set_option maxHeartbeats 1000000 in
theorem add_no {w : World} {b : Nat} {L : List Sym} {sv : Value} {mr : Option Nat} (h : SigAt w b L sv mr) (x : Sym) (hs : x.name.size ≤ maxLen) (hz : addErr L x ≠ 0) :
    Calls Tryz.prog 27 #[.pointer (some ⟨b,0,none⟩),.agg #[.string x.name,.int .i64 x.ar,.bool x.df]] w fun e w' => e = .returned (.tuple #[.int .i64 0,.int .i64 (addErr L x)]) ∧ Moved w b sv mr L w' := by
  have h1 : SigAt (w.alloc (boxOf x)) b L sv mr := h.kept (Kept.alloc (Kept.refl (fun _ => False) w) _) (fun _ _ f => f)
  have h2 : SigAt ((w.alloc (boxOf x)).alloc (boxOf x)) b L sv mr := h1.kept (Kept.alloc (Kept.refl (fun _ => False) _) _) (fun _ _ f => f)
  have hz' : (addErr L x != 0) = true := by simpa using hz
  go_enter Tryz.func27, Tryz.ntmps27
  go_wp2_with (first | (go_at_call 59; refine (refusal_any h1 x hs).mono ?_; rintro e w' ⟨rfl, rfl⟩))
  go_ret2
  exact ⟨rfl, sv, mr, h2, Kept.alloc (Kept.alloc (Kept.refl _ w) _) _, fun k hk => .inl hk⟩
theorem add_any {w : World} {b : Nat} {L : List Sym} {sv : Value} {mr : Option Nat} (h : SigAt w b L sv mr) (x : Sym) (hs : x.name.size ≤ maxLen) :
    Calls Tryz.prog 27 #[.pointer (some ⟨b,0,none⟩),.agg #[.string x.name,.int .i64 x.ar,.bool x.df]] w fun e w' => e = .returned (.tuple #[.int .i64 (addN L x),.int .i64 (addErr L x)]) ∧ Moved w b sv mr (addL L x) w' := by
  by_cases hz : addErr L x = 0
  · rw [addN, addL, if_pos hz, if_pos hz, hz]; exact add_ok h x hs hz
  · rw [addN, addL, if_neg hz, if_neg hz]; exact add_no h x hs hz
end Go.Proofs.YthamjjhioafkjaaGreat
namespace Go.Proofs.YthamjjhioafkjaaGreat
set_option maxRecDepth 100000
open Go.RowKit
abbrev From (n k : Nat) : Prop := n ≤ k
abbrev aS : Sym := ⟨⟨#[115]⟩, 1, false⟩
abbrev aAdd : Sym := ⟨⟨#[97, 100, 100]⟩, 2, true⟩
end Go.Proofs.YthamjjhioafkjaaGreat
namespace Go.Proofs.YthamjjhioafkjaaGreat
set_option maxRecDepth 100000
open Go.RowKit
theorem SigAt.sym {w : World} {b : Nat} {L : List Sym} {ao : Option Addr} {cap : Nat} {mr : Option Nat} (h : SigAt w b L (.slice ao L.length cap) mr) {i : Nat} (hi : i < L.length) :
    ∃ g, ao = some ⟨g, 0, none⟩ ∧ g < w.heap.size ∧ w.cell? ⟨g, i * 3, none⟩ = some (.string L[i].name) ∧ w.cell? ⟨g, i * 3 + 1, none⟩ = some (.int .i64 L[i].ar) ∧ w.cell? ⟨g, i * 3 + 2, none⟩ = some (.bool L[i].df) := by
  obtain ⟨g, cap', hv, _, hlt⟩ := h.row.form (by omega)
  obtain ⟨rfl, _, rfl⟩ : ao = some ⟨g, 0, none⟩ ∧ L.length = L.length ∧ cap = cap' := by simpa using hv
  have hc := fun j hj => h.row.cellAt j hj
  obtain ⟨a1, a2, a3⟩ := symCells_at hi
  refine ⟨g, rfl, hlt, ?_, ?_, ?_⟩
  · rw [hc _ (by omega), a1]
  · rw [hc _ (by omega), a2]
  · rw [hc _ (by omega), a3]
set_option maxHeartbeats 1000000 in
theorem at_yes {w : World} {b : Nat} {L : List Sym} {sv : Value} {mr : Option Nat} (h : SigAt w b L sv mr) (i : Nat) (hi : i < L.length) :
    Calls Tryz.prog 91 #[.pointer (some ⟨b,0,none⟩),.int .i64 (i : Int)] w fun e w' => e = .returned (.tuple #[.agg #[.string L[i].name,.int .i64 L[i].ar,.bool L[i].df],.int .i64 0]) ∧ Kept (fun _ => False) w w' := by
  obtain ⟨ao, cap, rfl⟩ := h.sv
  have h1 : ∀ o, SigAt (w.alloc o) b L (.slice ao L.length cap) mr := fun o => h.kept (Kept.alloc (Kept.refl (fun _ => False) w) _) (fun _ _ f => f)
  have c0 : ∀ o, (w.alloc o).cell? ⟨b, 0, none⟩ = some (.slice ao L.length cap) := fun o => cellAt (h1 o).blk 0
  obtain ⟨g, rfl, hg, x0, x1, x2⟩ := h.sym hi
  have hlen := h.len
  have i1 : (0 : Int) ≤ (i : Int) := by omega
  have i2 : (i : Int) < (L.length : Int) := by omega
  go_enter Tryz.func91, Tryz.ntmps91
  go_wp2
  exact bodyPost_ret (v := .tuple #[.agg #[.string L[i].name, .int .i64 L[i].ar, .bool L[i].df], .int .i64 0]) (by simp [results, Tryz.results91, go_sem]) rfl ⟨rfl, Kept.alloc (Kept.refl _ w) _⟩
set_option maxHeartbeats 1000000 in
theorem at_no {w : World} {b : Nat} {L : List Sym} {sv : Value} {mr : Option Nat} (h : SigAt w b L sv mr) (n : Int) (hn : n < 0 ∨ (L.length : Int) ≤ n) :
    Calls Tryz.prog 91 #[.pointer (some ⟨b,0,none⟩),.int .i64 n] w fun e w' => e = .returned (.tuple #[.agg #[.string ⟨#[]⟩,.int .i64 0,.bool false],.int .i64 14]) ∧ Kept (fun _ => False) w w' := by
  obtain ⟨ao, cap, rfl⟩ := h.sv
  have h1 : ∀ o, SigAt (w.alloc o) b L (.slice ao L.length cap) mr := fun o => h.kept (Kept.alloc (Kept.refl (fun _ => False) w) _) (fun _ _ f => f)
  have c0 : ∀ o, (w.alloc o).cell? ⟨b, 0, none⟩ = some (.slice ao L.length cap) := fun o => cellAt (h1 o).blk 0
  by_cases h0 : n < 0
  · go_enter Tryz.func91, Tryz.ntmps91
    go_wp2
    exact bodyPost_ret (v := .tuple #[.agg #[.string ⟨#[]⟩, .int .i64 0, .bool false], .int .i64 14]) (by simp [results, Tryz.results91, go_sem]) rfl ⟨rfl, Kept.alloc (Kept.refl _ w) _⟩
  · have h2 : (L.length : Int) ≤ n := by omega
    go_enter Tryz.func91, Tryz.ntmps91
    go_wp2
    exact bodyPost_ret (v := .tuple #[.agg #[.string ⟨#[]⟩, .int .i64 0, .bool false], .int .i64 14]) (by simp [results, Tryz.results91, go_sem]) rfl ⟨rfl, Kept.alloc (Kept.refl _ w) _⟩
end Go.Proofs.YthamjjhioafkjaaGreat
namespace Go.Proofs.YthamjjhioafkjaaGreat
set_option maxRecDepth 100000
open Go.RowKit
attribute [local go_sem ↓] Go.wp_at_zero Go.wp_at_succ
def findR (L : List Sym) (s : ByteArray) : Int := match findI L s with | some i => (i : Int) | none => -1
theorem findI_first {L : List Sym} {s : ByteArray} {k : Nat} (hk : k < L.length) (h : L[k].name = s) (hb : ∀ j (hj : j < L.length),j < k → L[j].name ≠ s) : findI L s = some k := by
  induction L generalizing k with
  | nil => simp at hk
  | cons y r ih =>
    simp only [findI]
    cases k with
    | zero => simp at h; simp [h]
    | succ j =>
      have h0 : y.name ≠ s := hb 0 (by simp) (by omega)
      rw [if_neg h0, ih (k := j) (by simpa using hk) (by simpa using h) (fun i hi hij => by have := hb (i + 1) (by simpa using hi) (by omega); simpa using this)]
      rfl
theorem findI_all {L : List Sym} {s : ByteArray} (hb : ∀ j (hj : j < L.length),L[j].name ≠ s) : findI L s = none := by
  induction L with
  | nil => rfl
  | cons y r ih =>
    simp only [findI]
    have h0 : y.name ≠ s := hb 0 (by simp)
    rw [if_neg h0, ih (fun j hj => by have := hb (j + 1) (by simpa using hj); simpa using this)]
    rfl
theorem row_sym {w : World} {base : Nat} {L : List Sym} {ao : Option Addr} {cap : Nat} (h : w.ownsRow base 82 3 (.slice ao L.length cap) L.length (symCells L)) {i : Nat} (hi : i < L.length) :
    ∃ g, ao = some ⟨g, 0, none⟩ ∧ g < w.heap.size ∧ w.cell? ⟨g, i * 3, none⟩ = some (.string L[i].name) ∧ w.cell? ⟨g, i * 3 + 1, none⟩ = some (.int .i64 L[i].ar) ∧ w.cell? ⟨g, i * 3 + 2, none⟩ = some (.bool L[i].df) := by
  obtain ⟨g, cap', hv, _, hlt⟩ := h.form (by omega)
  obtain ⟨rfl, _, rfl⟩ : ao = some ⟨g, 0, none⟩ ∧ L.length = L.length ∧ cap = cap' := by simpa using hv
  have hc := fun j hj => h.cellAt j hj
  obtain ⟨a1, a2, a3⟩ := symCells_at hi
  refine ⟨g, rfl, hlt, ?_, ?_, ?_⟩
  · rw [hc _ (by omega), a1]
  · rw [hc _ (by omega), a2]
  · rw [hc _ (by omega), a3]
set_option maxHeartbeats 1000000 in
theorem rfind_any {w : World} {base : Nat} {L : List Sym} {v : Value} (hr : w.ownsRow base 82 3 v L.length (symCells L)) (hlen : L.length ≤ 64) (s : ByteArray) :
    Calls Tryz.prog 87 #[v,.string s] w fun e w' => e = .returned (.int .i64 (findR L s)) ∧ w' = w := by
  obtain ⟨ao, cap, rfl⟩ := row_shape hr
  go_enter Tryz.func87, Tryz.ntmps87
  go_wp2
  go_loop [5] (fun i => ∃ k : Nat, k ≤ L.length ∧ i = .int .i64 k ∧ ∀ j (hj : j < L.length), j < k → L[j].name ≠ s) (fun i => L.length - (intOf i).toNat)
  case atStart => exact ⟨0, Nat.zero_le _, rfl, fun j _ h => by omega⟩
  case round =>
    obtain ⟨k, hk, rfl, hal⟩ := hrel
    by_cases hlt : k < L.length
    · obtain ⟨g, rfl, hg, x0, x1, x2⟩ := row_sym hr hlt
      have i1 : (0 : Int) ≤ (k : Int) := by omega
      have i2 : (k : Int) < (L.length : Int) := by omega
      by_cases he : L[k].name = s
      · have hf : findR L s = (k : Int) := by rw [findR, findI_first hlt he hal]
        have HF : Hid (findR L s = (k : Int)) := hf
        clear hf
        go_wp2
        go_ret
        exact ⟨ret_int HF.out.symm, rfl⟩
      · have hnx : ∀ j (hj : j < L.length), j < k + 1 → L[j].name ≠ s := by
          intro j hj h2
          by_cases e : j = k
          · subst e; exact he
          · exact hal j hj (by omega)
        have he' := str_ne he
        go_wp2
        go_round
        case rel => exact ⟨k + 1, by omega, by go_num, hnx⟩
        case measure => simp [intOf]; omega
    · have hf : findR L s = -1 := by rw [findR, findI_all (fun j hj => hal j hj (by omega))]
      have HF : Hid (findR L s = -1) := hf
      clear hf
      go_wp2
      go_ret
      exact ⟨ret_int HF.out.symm, rfl⟩
structure RefAt (w : World) (rb : Nat) (L : List Sym) (rv : Value) : Prop where
  blk : w.heap[rb]? = some (.cells #[rv] 129 (0, 0))
  row : w.ownsRow 0 82 3 rv L.length (symCells L)
  apart : rv.ownBlock ≠ some rb
def RFoot (rb : Nat) (rv : Value) (k : Nat) : Prop := k = rb ∨ rv.ownBlock = some k
theorem RefAt.kept {S : Nat → Prop} {w w' : World} {rb : Nat} {L : List Sym} {rv : Value} (h : RefAt w rb L rv) (hk : Kept S w w') (hn : ∀ k,RFoot rb rv k → ¬ S k) : RefAt w' rb L rv :=
  ⟨hk.at h.blk (hn rb (.inl rfl)), hk.row h.row (fun k e => hn k (.inr e)), h.apart⟩
theorem RefAt.lt {w : World} {rb : Nat} {L : List Sym} {rv : Value} (h : RefAt w rb L rv) : ∀ k,RFoot rb rv k → k < w.heap.size := by
  intro k hk
  rcases hk with rfl | e
  · exact lt_of_at h.blk
  · exact (h.row.lt k e).2
theorem RefAt.c0 {w : World} {rb : Nat} {L : List Sym} {rv : Value} (h : RefAt w rb L rv) : w.cell? ⟨rb,0,none⟩ = some rv := cellAt h.blk 0
theorem RefAt.f0 {w : World} {rb : Nat} {L : List Sym} {rv : Value} (h : RefAt w rb L rv) : w.frozen? ⟨rb,0,none⟩ = false := frozenAt h.blk 0
def RMoved (w : World) (rb : Nat) (rv : Value) (L' : List Sym) (w' : World) : Prop :=
  ∃ rv', RefAt w' rb L' rv' ∧ Kept (RFoot rb rv) w w' ∧ ∀ k, RFoot rb rv' k → RFoot rb rv k ∨ w.heap.size ≤ k
theorem findR_some {L : List Sym} {s : ByteArray} (h : (findI L s).isSome = true) : 0 ≤ findR L s := by
  unfold findR
  cases hf : findI L s with
  | none => simp [hf] at h
  | some i => simp
theorem findR_none {L : List Sym} {s : ByteArray} (h : (findI L s).isSome = false) : findR L s = -1 := by
  unfold findR
  cases hf : findI L s with
  | none => rfl
  | some i => simp [hf] at h
set_option maxHeartbeats 2000000 in
theorem radd_no {w : World} {rb : Nat} {L : List Sym} {rv : Value} (h : RefAt w rb L rv) (hlen : L.length ≤ 64) (x : Sym) (hs : x.name.size ≤ maxLen) (hz : addErr L x ≠ 0) :
    Calls Tryz.prog 51 #[.pointer (some ⟨rb,0,none⟩),symV x] w fun e w' => e = .returned (.tuple #[.int .i64 0,.int .i64 (addErr L x)]) ∧ Kept (fun _ => False) w w' := by
  have h1 : RefAt (w.alloc (boxOf x)) rb L rv := h.kept (Kept.alloc (Kept.refl (fun _ => False) w) _) (fun _ _ f => f)
  have h2 : ∀ m, RefAt ((w.alloc (boxOf x)).drewN m) rb L rv := fun m => h1.kept (Kept.drewN (Kept.refl (fun _ => False) _) m) (fun _ _ f => f)
  obtain ⟨ao, cap, rfl⟩ := row_shape h.row
  have c0 := h1.c0
  cases hn : nameB x.name with
  | false =>
    have he : addErr L x = 10 := by simp [addErr, hn]
    have HE : Hid (addErr L x = 10) := he
    clear he
    go_enter Tryz.func51, Tryz.ntmps51
    go_wp2_with (first | (go_at_call 86; refine (rIsName_any _ _ hs).mono ?_; rintro e w' ⟨rfl, rfl⟩))
    go_ret2
    exact ⟨by rw [HE.out]; rfl, Kept.alloc (Kept.refl _ w) _⟩
  | true =>
    by_cases ha : x.ar < 0
    · have HE : Hid (addErr L x = 11) := by show addErr L x = 11; simp [addErr, hn, ha]
      go_enter Tryz.func51, Tryz.ntmps51
      go_wp2_with (first | (go_at_call 86; refine (rIsName_any _ _ hs).mono ?_; rintro e w' ⟨rfl, rfl⟩))
      go_ret2
      exact ⟨by rw [HE.out]; rfl, Kept.alloc (Kept.refl _ w) _⟩
    · by_cases hb : 6 < x.ar
      · have HE : Hid (addErr L x = 11) := by show addErr L x = 11; simp [addErr, hn, hb]
        go_enter Tryz.func51, Tryz.ntmps51
        go_wp2_with (first | (go_at_call 86; refine (rIsName_any _ _ hs).mono ?_; rintro e w' ⟨rfl, rfl⟩))
        go_ret2
        exact ⟨by rw [HE.out]; rfl, Kept.alloc (Kept.refl _ w) _⟩
      · cases hf : (findI L x.name).isSome with
        | true =>
          have HE : Hid (addErr L x = 12) := by show addErr L x = 12; simp [addErr, hn, ha, hb, hf]
          have hfr := findR_some hf
          go_enter Tryz.func51, Tryz.ntmps51
          go_wp2_with (first | (go_at_call 86; refine (rIsName_any _ _ hs).mono ?_; rintro e w' ⟨rfl, rfl⟩))
          go_quiet ((go_at_call 87; exact Calls.quiet_of_same (rfind_any (h2 _).row hlen x.name)))
          go_wp2
          go_ret2
          exact ⟨by rw [HE.out]; rfl, Kept.drewN (Kept.alloc (Kept.refl _ w) _) _⟩
        | false =>
          have hm : 64 ≤ L.length := by
            rcases Nat.lt_or_ge L.length 64 with h | h
            · exact absurd (by simp [addErr, hn, ha, hb, hf]; omega) hz
            · exact h
          have HE : Hid (addErr L x = 13) := by show addErr L x = 13; simp [addErr, hn, ha, hb, hf, hm]
          have hfr := findR_none hf
          go_enter Tryz.func51, Tryz.ntmps51
          go_wp2_with (first | (go_at_call 86; refine (rIsName_any _ _ hs).mono ?_; rintro e w' ⟨rfl, rfl⟩))
          go_quiet ((go_at_call 87; exact Calls.quiet_of_same (rfind_any (h2 _).row hlen x.name)))
          go_wp2
          go_ret2
          exact ⟨by rw [HE.out]; rfl, Kept.drewN (Kept.alloc (Kept.refl _ w) _) _⟩
end Go.Proofs.YthamjjhioafkjaaGreat
namespace Go.Proofs.YthamjjhioafkjaaGreat
set_option maxRecDepth 100000
open Go.RowKit
attribute [local go_sem ↓] Go.wp_at_zero Go.wp_at_succ
theorem radd_end {w wc w1 : World} {rb : Nat} {L : List Sym} {rv : Value} {x : Sym} {gg cap : Nat} (h : RefAt w rb L rv) (hrc : RefAt wc rb L rv) (hkp : Kept (fun _ => False) w wc)
    (hown1 : w1.ownsRow 0 82 3 (.slice (some ⟨gg, 0, none⟩) (L.length + 1) cap) (L.length + 1) (symCells L ++ [.string x.name, .int .i64 x.ar, .bool x.df]))
    (hgrow : (wc.alloc (boxOf x)).drew.grownBy w1 rv.ownBlock) (hat : rv.ownBlock = some gg ∨ gg = wc.heap.size + 1) :
    RMoved w rb rv (L ++ [x]) (w1.setCell ⟨rb, 0, none⟩ (.slice (some ⟨gg, 0, none⟩) (L.length + 1) cap)) := by
  have lb := lt_of_at h.blk
  have lbc := lt_of_at hrc.blk
  have hb1 := blk_grown hgrow hrc.blk hrc.apart
  have hgb : gg ≠ rb := by
    rcases hat with e | e
    · intro e'; exact h.apart (by rw [e, e'])
    · omega
  have hk1 : Kept (RFoot rb rv) wc w1 := Kept.grown (Kept.drew (Kept.alloc (Kept.refl _ wc) _)) hgrow (fun _ e _ => .inr e)
  have hk2 : Kept (RFoot rb rv) wc (w1.setCell ⟨rb, 0, none⟩ (.slice (some ⟨gg, 0, none⟩) (L.length + 1) cap)) := Kept.setCell hk1 (fun _ => .inl rfl) _
  have hk3 : Kept (fun k => k = rb) w1 (w1.setCell ⟨rb, 0, none⟩ (.slice (some ⟨gg, 0, none⟩) (L.length + 1) cap)) := Kept.setCell (S := fun k => k = rb) (p := ⟨rb, 0, none⟩) (Kept.refl _ _) (fun _ => rfl) _
  refine ⟨_, ⟨by rw [setAt hb1]; rfl, ?_, by simpa [Value.ownBlock] using hgb⟩, ?_, ?_⟩
  · rw [symCells_snoc]
    have := hk3.row hown1 (fun k e e' => by simp [Value.ownBlock] at e; omega)
    simpa using this
  · exact (hkp.mono (fun _ _ f => f.elim)).trans hk2 (fun _ _ e => e)
  · intro k hk
    rcases hk with e | e
    · exact .inl (.inl e)
    · simp [Value.ownBlock] at e
      subst e
      rcases hat with e | e
      · exact .inl (.inr e)
      · right; have := hkp.size; omega
set_option maxHeartbeats 2000000 in
theorem radd_ok {w : World} {rb : Nat} {L : List Sym} {rv : Value} (h : RefAt w rb L rv) (x : Sym) (hs : x.name.size ≤ maxLen) (hz : addErr L x = 0) :
    Calls Tryz.prog 51 #[.pointer (some ⟨rb,0,none⟩),symV x] w fun e w' => e = .returned (.tuple #[.int .i64 (L.length : Int),.int .i64 0]) ∧ RMoved w rb rv (L ++ [x]) w' := by
  have h1 : RefAt (w.alloc (boxOf x)) rb L rv := h.kept (Kept.alloc (Kept.refl (fun _ => False) w) _) (fun _ _ f => f)
  have h2 : ∀ m, RefAt ((w.alloc (boxOf x)).drewN m) rb L rv := fun m => h1.kept (Kept.drewN (Kept.refl (fun _ => False) _) m) (fun _ _ f => f)
  obtain ⟨ao, cap, rfl⟩ := row_shape h.row
  have c0 := h1.c0
  obtain ⟨hf, hn, hm⟩ := add_zero hz
  have hlen : L.length ≤ 64 := by omega
  have har := add_ar hz
  have ha : ¬ x.ar < 0 := by omega
  have hb : ¬ 6 < x.ar := by omega
  have hfr : findR L x.name = -1 := findR_none (by rw [hf]; rfl)
  go_enter Tryz.func51, Tryz.ntmps51
  go_wp2_with (first | (go_at_call 86; refine (rIsName_any _ _ hs).mono ?_; rintro e w' ⟨rfl, rfl⟩))
  go_quiet ((go_at_call 87; exact Calls.quiet_of_same (rfind_any (h2 _).row hlen x.name)))
  have hrc := h2 nq
  have hbx : ((w.alloc (boxOf x)).drewN nq).heap[w.heap.size]? = some (boxOf x) := heap_alloc_new w _
  have hkp : Kept (fun _ => False) w ((w.alloc (boxOf x)).drewN nq) := Kept.drewN (Kept.alloc (Kept.refl _ w) _) nq
  obtain ⟨wc, hwc⟩ : ∃ wc, (w.alloc (boxOf x)).drewN nq = wc := ⟨_, rfl⟩
  rw [hwc] at hrc hbx hkp ⊢
  clear hwc c0
  have d0 := hrc.c0
  go_upto_region 10 with fail
  go_cut [] (fun w' => RMoved w rb (.slice ao L.length cap) (L ++ [x]) w')
  case first =>
    obtain ⟨i0, hi0, hz0, hz1, hz2⟩ := info_parts info_Symbol
    have hn1 : L.length + 1 ≤ maxLen := by unfold maxLen; omega
    have hn2 : (L.length + 1) * 32 ≤ 140737488355328 := by omega
    have g0 := hrc.f0
    have x0 : wc.cell? ⟨w.heap.size, 0, none⟩ = some (.string x.name) := cellAt hbx 0
    have x1 : wc.cell? ⟨w.heap.size, 1, none⟩ = some (.int .i64 x.ar) := cellAt hbx 1
    have x2 : wc.cell? ⟨w.heap.size, 2, none⟩ = some (.bool x.df) := cellAt hbx 2
    have d0' : (wc.alloc (boxOf x)).cell? ⟨rb, 0, none⟩ = some (.slice ao L.length cap) := cellAt ((heap_alloc_old wc _ (lt_of_at hrc.blk)).trans hrc.blk) 0
    go_region_law ((refine step_append_lies _ (by rfl) _ _ _ (by rfl) 0 82 i0 _ 3 32 Tryz.underlying36 hi0 hz0 hz1 hz2 rfl (by omega) (.slice ao L.length cap) L.length (symCells L) (by rfl) ((hrc.row.alloc _).drew) ⟨wc.heap.size, 0, none⟩ 1 1 [.string x.name, .int .i64 x.ar, .bool x.df] (by rfl) (by rfl) (World.news_of_block (cs := #[.string x.name, .int .i64 x.ar, .bool x.df]) (t := 82) (fr := (0, 0)) (heap_alloc_new wc _)) (by simp [Value.oneCell']) (by omega) hn1 hn2 (by omega) (wc.heap.size + 1) (by simp) ?_; intro gg cap w1 hown1 hgrow hat hlt; have hb1 := blk_grown hgrow hrc.blk hrc.apart; have k0 := cellAt hb1 0; have k1 := frozenAt hb1 0; simp only [List.getElem?_toArray, List.getElem?_cons_zero] at k0))
    all_goals
      go_wp2
      go_meet
      case rel => exact radd_end h hrc hkp hown1 hgrow hat
  case rest =>
    obtain ⟨rv', hr', hk', hf'⟩ := hcut
    obtain ⟨ao', cap', rfl⟩ := row_shape hr'.row
    have r0 := hr'.c0
    simp only [List.length_append, List.length_cons, List.length_nil] at r0
    go_wp2
    go_ret2
    exact ⟨by simp, _, hr', hk', hf'⟩
theorem radd_any {w : World} {rb : Nat} {L : List Sym} {rv : Value} (h : RefAt w rb L rv) (hlen : L.length ≤ 64) (x : Sym) (hs : x.name.size ≤ maxLen) :
    Calls Tryz.prog 51 #[.pointer (some ⟨rb,0,none⟩),symV x] w fun e w' => e = .returned (.tuple #[.int .i64 (addN L x),.int .i64 (addErr L x)]) ∧ RMoved w rb rv (addL L x) w' := by
  by_cases hz : addErr L x = 0
  · rw [addN, addL, if_pos hz, if_pos hz, hz]; exact radd_ok h x hs hz
  · rw [addN, addL, if_neg hz, if_neg hz]
    refine (radd_no h hlen x hs hz).mono ?_
    rintro e w' ⟨rfl, hk⟩
    exact ⟨rfl, rv, h.kept hk (fun _ _ f => f), hk.mono (fun _ _ f => f.elim), fun k hk => .inl hk⟩
end Go.Proofs.YthamjjhioafkjaaGreat
