import Derived.Test.YtbjfpfnfbgncnaaGreatDoorM09
import Derived.Deep.RegionLaw
import Derived.Deep.DeepCutAuto
/- The walk of Add: what it answers, and what becomes of the signature. -/
namespace Go.Proofs.YtbjfpfnfbgncnaaGreatDoor
set_option maxRecDepth 100000
open Go.RowKit
/-- What Add leaves: the symbols, the number, the error. -/
def addL (L : List Sym) (x : Sym) : List Sym := if addErr L x = 0 then L ++ [x] else L
def addN (L : List Sym) (x : Sym) : Int := if addErr L x = 0 then (L.length : Int) else 0
/-- .. in memory. -/
def Moved (w : World) (b : Nat) (sv : Value) (mr : Option Nat) (L' : List Sym) (w' : World) : Prop :=
  ∃ sv' mr', SigAt w' b L' sv' mr' ∧ Kept (Foot b sv mr) w w' ∧ ∀ k, Foot b sv' mr' k → Foot b sv mr k ∨ w.heap.size ≤ k
abbrev boxOf (x : Sym) : Obj := .cells #[.string x.name, .int .i64 x.ar, .bool x.df] 95 (0, 0)
theorem map_empty (w : World) : MapIs (w.alloc (.map #[] 0)) (some w.heap.size) [] :=
  ⟨0, _, World.ownsMap_made w Tryz.prog _ _, Nat.le_refl _, fun s => ⟨rfl, fun i h => by simp [findI] at h⟩⟩
theorem eql_map (mr : Option Nat) (w : World) : (binOp .eql 66 (.map mr) (.map none)).run Tryz.prog w = .ok (.bool mr.isNone) w := by
  cases mr <;> kernel_rfl
theorem sig_mapped {W : World} {b : Nat} {L : List Sym} {sv : Value} (h : SigAt W b L sv none) : SigAt ((W.alloc (.map #[] 0)).setCell ⟨b, 1, none⟩ (.map (some W.heap.size))) b L sv (some W.heap.size) := by
  obtain rfl : L = [] := h.map
  have hb := lt_of_at h.blk
  have h3 : SigAt (W.alloc (.map #[] 0)) b [] sv none := h.kept (Kept.alloc (Kept.refl (fun _ => False) _) _) (fun _ _ f => f)
  have hk : Kept (fun k => k = b) (W.alloc (.map #[] 0)) ((W.alloc (.map #[] 0)).setCell ⟨b, 1, none⟩ (.map (some W.heap.size))) := Kept.setCell (S := fun k => k = b) (p := ⟨b, 1, none⟩) (Kept.refl _ _) (fun _ => rfl) _
  exact ⟨by rw [setAt h3.blk]; rfl, hk.row h3.row (fun k e e' => h.apart (by rw [e, e'])), (map_empty W).kept hk (fun k e e' => by simp at e; omega), h.apart, h.len, h.names⟩
theorem add_zero {L : List Sym} {x : Sym} (h : addErr L x = 0) : findI L x.name = none ∧ nameB x.name = true ∧ L.length < 64 := by
  unfold addErr at h
  by_cases h1 : nameB x.name = false
  · simp [h1] at h
  · rw [if_neg h1] at h
    by_cases h2 : x.ar < 0 ∨ 6 < x.ar
    · simp [h2] at h
    · rw [if_neg h2] at h
      by_cases h3 : (findI L x.name).isSome
      · simp [h3] at h
      · rw [if_neg h3] at h
        by_cases h4 : 64 ≤ L.length
        · simp [h4] at h
        · exact ⟨by simpa using h3, by simpa using h1, by omega⟩
theorem add_ar {L : List Sym} {x : Sym} (h : addErr L x = 0) : 0 ≤ x.ar ∧ x.ar ≤ 6 := by
  unfold addErr at h
  by_cases h1 : nameB x.name = false
  · simp [h1] at h
  · rw [if_neg h1] at h
    by_cases h2 : x.ar < 0 ∨ 6 < x.ar
    · simp [h2] at h
    · omega
theorem blk_grown {w w1 : World} {o ob : Obj} {b : Nat} {v : Value} (hg : (w.alloc o).drew.grownBy w1 v.ownBlock) (hb : w.heap[b]? = some ob) (hne : v.ownBlock ≠ some b) : w1.heap[b]? = some ob := by
  have hlt := lt_of_at hb
  rw [hg.block b (by simp; omega) (Ne.symm hne)]
  exact (heap_alloc_old w o hlt).trans hb
/-- What stands between the append and the store into the map. -/
def AddMid (w : World) (b : Nat) (L : List Sym) (sv : Value) (mr : Option Nat) (bm : Nat) (x : Sym) (w' : World) : Prop :=
  ∃ sv', w'.heap[b]? = some (.cells #[sv', .map (some bm)] 134 (0, 0)) ∧ w'.ownsRow 0 95 3 sv' (L.length + 1) (symCells (L ++ [x])) ∧ MapIs w' (some bm) L ∧ w'.heap[w.heap.size]? = some (boxOf x) ∧ Kept (Foot b sv mr) w w' ∧ ∀ k, sv'.ownBlock = some k → k ≠ b ∧ (sv.ownBlock = some k ∨ w.heap.size ≤ k)
theorem add_mid {w wc w1 : World} {b : Nat} {L : List Sym} {sv : Value} {mr : Option Nat} {x : Sym} {bm gg cap : Nat} (h : SigAt w b L sv mr) (hsg : SigAt wc b L sv (some bm)) (hbx : wc.heap[w.heap.size]? = some (boxOf x)) (hkp : Kept (Foot b sv mr) w wc)
    (hown1 : w1.ownsRow 0 95 3 (.slice (some ⟨gg, 0, none⟩) (L.length + 1) cap) (L.length + 1) (symCells L ++ [.string x.name, .int .i64 x.ar, .bool x.df]))
    (hgrow : (wc.alloc (boxOf x)).drew.grownBy w1 sv.ownBlock) (hat : sv.ownBlock = some gg ∨ gg = wc.heap.size + 1) (hb1 : w1.heap[b]? = some (.cells #[sv, .map (some bm)] 134 (0, 0))) :
    AddMid w b L sv mr bm x (w1.setCell ⟨b, 0, none⟩ (.slice (some ⟨gg, 0, none⟩) (L.length + 1) cap)) := by
  have lb := lt_of_at h.blk
  have lbc := lt_of_at hsg.blk
  have lsv := h.row.lt
  have hgb : gg ≠ b := by
    rcases hat with e | e
    · intro e'; exact hsg.apart (by rw [e, e'])
    · omega
  obtain ⟨n, D, hm, hn, hall⟩ := hsg.map
  obtain ⟨es, clock, hbm, hrest⟩ := hm
  have hbmb : bm ≠ b := fun e => by subst e; rw [hsg.blk] at hbm; simp at hbm
  have hbms : sv.ownBlock ≠ some bm := fun e => by
    rcases hsg.row.2 with ⟨rfl, _⟩ | ⟨g, c, cur, rfl, _, hg, _⟩
    · simp [Value.ownBlock] at e
    · simp [Value.ownBlock] at e; subst e; rw [hg] at hbm; simp at hbm
  have hk1 : Kept (fun k => sv.ownBlock = some k) wc w1 := Kept.grown (Kept.drew (Kept.alloc (Kept.refl _ wc) _)) hgrow (fun _ e _ => e)
  have hk2 : Kept (fun k => sv.ownBlock = some k ∨ k = b) wc (w1.setCell ⟨b, 0, none⟩ (.slice (some ⟨gg, 0, none⟩) (L.length + 1) cap)) :=
    Kept.setCell (hk1.mono (fun _ _ e => .inl e)) (fun _ => .inr rfl) _
  have hk3 : Kept (fun k => k = b) w1 (w1.setCell ⟨b, 0, none⟩ (.slice (some ⟨gg, 0, none⟩) (L.length + 1) cap)) := Kept.setCell (S := fun k => k = b) (p := ⟨b, 0, none⟩) (Kept.refl _ _) (fun _ => rfl) _
  refine ⟨_, by rw [setAt hb1]; rfl, ?_, ?_, ?_, ?_, ?_⟩
  · rw [symCells_snoc]; exact hk3.row hown1 (fun k e e' => by simp [Value.ownBlock] at e; omega)
  · exact ⟨n, D, hk2.map ⟨es, clock, hbm, hrest⟩ (fun e => e.elim hbms hbmb), hn, hall⟩
  · exact hk2.at hbx (fun e => by
      rcases e with e | e
      · have := lsv _ e; omega
      · omega)
  · exact hkp.trans hk2 (fun i _ e => e.elim (fun e => .inr (.inl e)) .inl)
  · intro k e
    simp [Value.ownBlock] at e
    subst e
    refine ⟨hgb, hat.imp id (fun e => ?_)⟩
    have := hkp.size
    omega
theorem map_put {w w' : World} {bm : Nat} {L : List Sym} {x : Sym} {n : Nat} {D : DataW Unit} (hf : findI L x.name = none) (hm : w.ownsMap Tryz.prog 9 (plainElem Tryz.prog 3) bm n D) (hn : n ≤ L.length)
    (hall : ∀ s : ByteArray, Maps.has D (.string s.data.toList) = (findI L s).isSome ∧ ∀ i, findI L s = some i → D.atKey (.string s.data.toList) (.lit (.int .i64 0)) = .lit (.int .i64 (i : Int)))
    (hm' : w'.ownsMap Tryz.prog 9 (plainElem Tryz.prog 3) bm (n + 1) (D.put (.string x.name.data.toList) (.lit (.int .i64 (L.length : Int))))) : MapIs w' (some bm) (L ++ [x]) := by
  refine ⟨n + 1, _, hm', by simp; omega, fun s => ?_⟩
  have hk : WideAt.IsKeyLit (.string x.name.data.toList) := trivial
  rw [findI_snoc]
  by_cases hs : x.name = s
  · subst hs
    rw [hf, Maps.has_put_same hm.isMap hk, Maps.atKey_put_same hm.isMap hk]
    simp
  · have hne : Lit.string s.data.toList ≠ Lit.string x.name.data.toList := by
      intro e
      apply hs
      have e1 : s.data.toList = x.name.data.toList := by simpa using e
      have e2 : s.data = x.name.data := Array.toList_inj.1 e1
      cases s; cases hx : x.name; simp_all
    rw [Maps.has_put_other hne, Maps.atKey_put_other hne, (hall s).1]
    cases hfs : findI L s with
    | none => simp [hs]
    | some i => simpa using (hall s).2 i hfs
theorem row_not_map {w : World} {e : TypeId} {v : Value} {n : Nat} {xs : List Value} {bm : Nat} {es : Array MapEntry} {clock : Nat} (hr : w.ownsRow 0 e 3 v n xs) (hb : w.heap[bm]? = some (.map es clock)) : v.ownBlock ≠ some bm := fun e => by
  rcases hr.2 with ⟨rfl, _⟩ | ⟨g, c, cur, rfl, _, hg, _⟩
  · simp [Value.ownBlock] at e
  · simp [Value.ownBlock] at e; subst e; rw [hg] at hb; simp at hb
theorem add_end {w wc w2 : World} {b : Nat} {L : List Sym} {sv sv' : Value} {mr : Option Nat} {x : Sym} {bm n : Nat} {D : DataW Unit} (h : SigAt w b L sv mr) (hz : addErr L x = 0) (hb : wc.heap[b]? = some (.cells #[sv', .map (some bm)] 134 (0, 0)))
    (hrow : wc.ownsRow 0 95 3 sv' (L.length + 1) (symCells (L ++ [x]))) (hkp : Kept (Foot b sv mr) w wc) (hft : ∀ k, sv'.ownBlock = some k → k ≠ b ∧ (sv.ownBlock = some k ∨ w.heap.size ≤ k))
    (hm : wc.ownsMap Tryz.prog 9 (plainElem Tryz.prog 3) bm n D) (hn : n ≤ L.length)
    (hall : ∀ s : ByteArray, Maps.has D (.string s.data.toList) = (findI L s).isSome ∧ ∀ i, findI L s = some i → D.atKey (.string s.data.toList) (.lit (.int .i64 0)) = .lit (.int .i64 (i : Int)))
    (hm2 : w2.ownsMap Tryz.prog 9 (plainElem Tryz.prog 3) bm (n + 1) (D.put (.string x.name.data.toList) (.lit (.int .i64 (L.length : Int)))))
    (hturn : wc.drew.mapTurned w2 bm) (hbm : mr = some bm ∨ w.heap.size ≤ bm) : Moved w b sv mr (L ++ [x]) w2 := by
  obtain ⟨hf, hnm, hlen⟩ := add_zero hz
  have hk : Kept (fun k => k = bm) wc w2 := Kept.grown (Kept.drew (Kept.refl _ wc)) hturn.grown (fun k e _ => by simpa using e.symm)
  have hbmb : b ≠ bm := by
    obtain ⟨es, clock, hb', _⟩ := hm
    intro e; subst e; rw [hb] at hb'; simp at hb'
  have hsb : sv'.ownBlock ≠ some bm := by
    obtain ⟨es, clock, hb', _⟩ := hm
    exact row_not_map hrow hb'
  refine ⟨sv', some bm, ⟨hk.at hb hbmb, ?_, map_put hf hm hn hall hm2, fun e => (hft b e).1 rfl, by simp; omega, ?_⟩, ?_, ?_⟩
  · have := hk.row hrow (fun k e e' => hsb (by rw [e, e']))
    simpa using this
  · intro y hy
    rcases List.mem_append.1 hy with hy | hy
    · exact h.names y hy
    · simp at hy; subst hy; exact hnm
  · refine hkp.trans hk (fun i hi e => ?_)
    subst e
    rcases hbm with e | e
    · exact .inr (.inr e)
    · omega
  · intro k hk'
    rcases hk' with e | e | e
    · exact .inl (.inl e)
    · exact (hft k e).2.imp (fun e => .inr (.inl e)) id
    · simp at e; subst e; exact hbm.imp (fun e => .inr (.inr e)) id
set_option maxHeartbeats 1000000 in
theorem add_ok {w : World} {b : Nat} {L : List Sym} {sv : Value} {mr : Option Nat} (h : SigAt w b L sv mr) (x : Sym) (hs : x.name.size ≤ maxLen) (hz : addErr L x = 0) :
    Calls Tryz.prog 39 #[.pointer (some ⟨b, 0, none⟩), .agg #[.string x.name, .int .i64 x.ar, .bool x.df]] w fun e w' => e = .returned (.tuple #[.int .i64 (L.length : Int), .int .i64 0]) ∧ Moved w b sv mr (L ++ [x]) w' := by
  obtain ⟨ao, cap, rfl⟩ := h.sv
  have h1 : SigAt (w.alloc (boxOf x)) b L (.slice ao L.length cap) mr := h.kept (Kept.alloc (Kept.refl (fun _ => False) w) _) (fun _ _ f => f)
  have h2 : SigAt ((w.alloc (boxOf x)).alloc (boxOf x)) b L (.slice ao L.length cap) mr := h1.kept (Kept.alloc (Kept.refl (fun _ => False) _) _) (fun _ _ f => f)
  have c1 : ((w.alloc (boxOf x)).alloc (boxOf x)).cell? ⟨b, 1, none⟩ = some (.map mr) := cellAt h2.blk 1
  have f1 : ((w.alloc (boxOf x)).alloc (boxOf x)).frozen? ⟨b, 1, none⟩ = false := frozenAt h2.blk 1
  have h2box : ((w.alloc (boxOf x)).alloc (boxOf x)).heap[w.heap.size]? = some (boxOf x) := by rw [heap_alloc_old _ _ (by simp)]; exact heap_alloc_new w _
  have h3 : SigAt (((w.alloc (boxOf x)).alloc (boxOf x)).alloc (.map #[] 0)) b L (.slice ao L.length cap) mr := h2.kept (Kept.alloc (Kept.refl (fun _ => False) _) _) (fun _ _ f => f)
  have c3 : (((w.alloc (boxOf x)).alloc (boxOf x)).alloc (.map #[] 0)).cell? ⟨b, 1, none⟩ = some (.map mr) := cellAt h3.blk 1
  have f3 : (((w.alloc (boxOf x)).alloc (boxOf x)).alloc (.map #[] 0)).frozen? ⟨b, 1, none⟩ = false := frozenAt h3.blk 1
  have hmm := @run_makeMap Tryz.prog
  have hem := eql_map
  go_enter Tryz.func39, Tryz.ntmps39
  go_upto_if 18 with (first | (go_at_call 67; refine (refusal_any h1 x hs).mono ?_; rintro e w' ⟨rfl, rfl⟩))
  go_cut [] (fun w' => ∃ bm, SigAt w' b L (.slice ao L.length cap) (some bm) ∧ w'.heap[w.heap.size]? = some (boxOf x) ∧ Kept (Foot b (.slice ao L.length cap) mr) w w' ∧ (mr = some bm ∨ w.heap.size ≤ bm))
  case first =>
    cases mr with
    | some bm =>
      go_wp2
      go_meet
      case rel => exact ⟨bm, h2, h2box, Kept.alloc (Kept.alloc (Kept.refl _ w) _) _, .inl rfl⟩
    | none =>
      go_wp2
      go_meet
      case rel =>
        refine ⟨w.heap.size + 1 + 1, ?_, ?_, ?_, .inr (by omega)⟩
        · simpa using sig_mapped h2
        · rw [Below.heap_setCell _ _ _ _ (by have := lt_of_at h.blk; simp; omega), heap_alloc_old _ _ (by simp; omega)]; exact h2box
        · exact Kept.setCell (Kept.alloc (Kept.alloc (Kept.alloc (Kept.refl _ w) _) _) _) (fun _ => .inl rfl) _
  case rest =>
    obtain ⟨bm, hsg, hbx, hkp, hbm⟩ := hcut
    have d0 : wc.cell? ⟨b, 0, none⟩ = some (.slice ao L.length cap) := cellAt hsg.blk 0
    go_upto_region 7 with fail
    go_cut [] (fun w' => AddMid w b L (.slice ao L.length cap) mr bm x w')
    case first =>
      obtain ⟨i0, hi0, hz0, hz1, hz2⟩ := info_parts info_Symbol
      have hn1 : L.length + 1 ≤ maxLen := by have := h.len; unfold maxLen; omega
      have hn2 : (L.length + 1) * 32 ≤ 140737488355328 := by have := h.len; omega
      have g0 : wc.frozen? ⟨b, 0, none⟩ = false := frozenAt hsg.blk 0
      have x0 : wc.cell? ⟨w.heap.size, 0, none⟩ = some (.string x.name) := cellAt hbx 0
      have x1 : wc.cell? ⟨w.heap.size, 1, none⟩ = some (.int .i64 x.ar) := cellAt hbx 1
      have x2 : wc.cell? ⟨w.heap.size, 2, none⟩ = some (.bool x.df) := cellAt hbx 2
      have d0' : (wc.alloc (boxOf x)).cell? ⟨b, 0, none⟩ = some (.slice ao L.length cap) := cellAt ((heap_alloc_old wc _ (lt_of_at hsg.blk)).trans hsg.blk) 0
      go_region_law ((refine step_append_lies _ (by rfl) _ _ _ (by rfl) 0 95 i0 _ 3 32 Tryz.underlying45 hi0 hz0 hz1 hz2 rfl (by omega) (.slice ao L.length cap) L.length (symCells L) (by rfl) ((hsg.row.alloc _).drew) ⟨wc.heap.size, 0, none⟩ 1 1 [.string x.name, .int .i64 x.ar, .bool x.df] (by rfl) (by rfl) (World.news_of_block (cs := #[.string x.name, .int .i64 x.ar, .bool x.df]) (t := 95) (fr := (0, 0)) (heap_alloc_new wc _)) (by simp [Value.oneCell']) (by omega) hn1 hn2 (by omega) (wc.heap.size + 1) (by simp) ?_; intro gg cap w1 hown1 hgrow hat hlt; have hb1 := blk_grown hgrow hsg.blk hsg.apart; have k0 := cellAt hb1 0; have k1 := frozenAt hb1 0; simp only [List.getElem?_toArray, List.getElem?_cons_zero] at k0))
      all_goals
        go_wp2
        go_meet
        case rel => exact add_mid h hsg hbx hkp hown1 hgrow hat hb1
    case rest =>
      obtain ⟨sv', hb, hrow, hmap, hbx, hkp, hft⟩ := hcut
      obtain ⟨n, D, hm, hn, hall⟩ := hmap
      have hsz : findI L x.name = none ∧ nameB x.name = true ∧ L.length < 64 := add_zero hz
      obtain ⟨w2, hrun, hm2, hturn⟩ := World.ownsMap.store (w := wc.drew) hm law_string Tryz.underlying66 (by have := hsz.2.2; unfold maxLen; omega) (key_str hs) (plainElem_int Tryz.underlying3 (a := (L.length : Int)) (WalkArith.wf_i64 (by have := hsz.2.2; omega)))
      have y0 : wc.cell? ⟨w.heap.size, 0, none⟩ = some (.string x.name) := cellAt hbx 0
      have y1 : wc.cell? ⟨b, 1, none⟩ = some (.map (some bm)) := cellAt hb 1
      go_wp2_with fail
      go_region
      all_goals
        go_wp2
        go_ret2
        exact ⟨rfl, add_end h hz hb hrow hkp hft hm hn hall hm2 hturn hbm⟩
set_option maxHeartbeats 1000000 in
theorem add_no {w : World} {b : Nat} {L : List Sym} {sv : Value} {mr : Option Nat} (h : SigAt w b L sv mr) (x : Sym) (hs : x.name.size ≤ maxLen) (hz : addErr L x ≠ 0) :
    Calls Tryz.prog 39 #[.pointer (some ⟨b, 0, none⟩), .agg #[.string x.name, .int .i64 x.ar, .bool x.df]] w fun e w' => e = .returned (.tuple #[.int .i64 0, .int .i64 (addErr L x)]) ∧ Moved w b sv mr L w' := by
  have h1 : SigAt (w.alloc (boxOf x)) b L sv mr := h.kept (Kept.alloc (Kept.refl (fun _ => False) w) _) (fun _ _ f => f)
  have h2 : SigAt ((w.alloc (boxOf x)).alloc (boxOf x)) b L sv mr := h1.kept (Kept.alloc (Kept.refl (fun _ => False) _) _) (fun _ _ f => f)
  have hz' : (addErr L x != 0) = true := by simpa using hz
  go_enter Tryz.func39, Tryz.ntmps39
  go_wp2_with (first | (go_at_call 67; refine (refusal_any h1 x hs).mono ?_; rintro e w' ⟨rfl, rfl⟩))
  go_ret2
  exact ⟨rfl, sv, mr, h2, Kept.alloc (Kept.alloc (Kept.refl _ w) _) _, fun k hk => .inl hk⟩
theorem add_any {w : World} {b : Nat} {L : List Sym} {sv : Value} {mr : Option Nat} (h : SigAt w b L sv mr) (x : Sym) (hs : x.name.size ≤ maxLen) :
    Calls Tryz.prog 39 #[.pointer (some ⟨b, 0, none⟩), .agg #[.string x.name, .int .i64 x.ar, .bool x.df]] w fun e w' => e = .returned (.tuple #[.int .i64 (addN L x), .int .i64 (addErr L x)]) ∧ Moved w b sv mr (addL L x) w' := by
  by_cases hz : addErr L x = 0
  · rw [addN, addL, if_pos hz, if_pos hz, hz]; exact add_ok h x hs hz
  · rw [addN, addL, if_neg hz, if_neg hz]; exact add_no h x hs hz
end Go.Proofs.YtbjfpfnfbgncnaaGreatDoor
/- The walk of the statements' head: calls whose answers the document fixes. -/
namespace Go.Proofs.YtbjfpfnfbgncnaaGreatDoor
set_option maxRecDepth 100000
open Go.RowKit
/-- Block b is a signature of these symbols, and lies from block n on with all that is its own. -/
def Own (n : Nat) (w : World) (b : Nat) (L : List Sym) : Prop := ∃ sv mr, SigAt w b L sv mr ∧ ∀ k, Foot b sv mr k → n ≤ k
abbrev From (n k : Nat) : Prop := n ≤ k
theorem Own.new (w : World) {n : Nat} (hn : n ≤ w.heap.size) : Own n (w.alloc (.cells #[.slice none 0 0, .map none] 134)) w.heap.size [] :=
  ⟨_, _, sig_new w, fun k hk => by rcases hk with e | e | e; · omega
                                   · simp [Value.ownBlock] at e
                                   · simp at e⟩
theorem Own.kept {n b : Nat} {w w' : World} {L : List Sym} {S : Nat → Prop} (h : Own n w b L) (hk : Kept S w w') (hs : ∀ k, n ≤ k → ¬ S k) : Own n w' b L := by
  obtain ⟨sv, mr, h1, h2⟩ := h
  exact ⟨sv, mr, h1.kept hk (fun k e => hs k (h2 k e)), h2⟩
theorem Own.add {n b : Nat} {w : World} {L : List Sym} (h : Own n w b L) (hn : n ≤ w.heap.size) (x : Sym) (hs : x.name.size ≤ maxLen) :
    Calls Tryz.prog 39 #[.pointer (some ⟨b, 0, none⟩), .agg #[.string x.name, .int .i64 x.ar, .bool x.df]] w fun e w' => e = .returned (.tuple #[.int .i64 (addN L x), .int .i64 (addErr L x)]) ∧ Own n w' b (addL L x) ∧ Kept (From n) w w' := by
  obtain ⟨sv, mr, h1, h2⟩ := h
  refine (add_any h1 x hs).mono ?_
  rintro e w' ⟨rfl, sv', mr', h3, h4, h5⟩
  exact ⟨rfl, ⟨sv', mr', h3, fun k hk => (h5 k hk).elim (h2 k) (fun e => by omega)⟩, h4.mono (fun k _ e => h2 k e)⟩
theorem Own.find {n b : Nat} {w : World} {L : List Sym} (h : Own n w b L) (s : ByteArray) (hs : s.size ≤ maxLen) :
    Calls Tryz.prog 56 #[.pointer (some ⟨b, 0, none⟩), .string s] w fun e w' => e = .returned (.tuple #[.int .i64 (((findI L s).getD 0 : Nat) : Int), .int .i64 (if (findI L s).isSome then 0 else 14)]) ∧ w' = w := by
  obtain ⟨sv, mr, h1, h2⟩ := h
  exact find_any h1 s hs
theorem Own.len {n b : Nat} {w : World} {L : List Sym} (h : Own n w b L) :
    Calls Tryz.prog 88 #[.pointer (some ⟨b, 0, none⟩)] w fun e w' => e = .returned (.int .i64 (L.length : Int)) ∧ w' = w := by
  obtain ⟨sv, mr, h1, h2⟩ := h
  exact len_any h1
theorem Kept.from {n : Nat} {w0 w w' : World} (h : Kept (From n) w0 w) (h' : Kept (From n) w w') : Kept (From n) w0 w' := h.trans h' (fun _ _ e => e)
abbrev aS : Sym := ⟨⟨#[115]⟩, 1, false⟩
abbrev aAdd : Sym := ⟨⟨#[97, 100, 100]⟩, 2, true⟩
abbrev aS0 : Sym := ⟨⟨#[115]⟩, 0, false⟩
theorem nm_s : nameB ⟨#[115]⟩ = true := by decide +kernel
theorem nm_add : nameB ⟨#[97, 100, 100]⟩ = true := by decide +kernel
theorem err1 : addErr [] aS = 0 := by simp [addErr, nm_s, findI]
theorem err2 : addErr [aS] aAdd = 0 := by simp [addErr, nm_add, findI]
theorem err3 : addErr [aS, aAdd] aS0 = 12 := by simp [addErr, nm_s, findI]
theorem fnd : findI [aS, aAdd] ⟨#[97, 100, 100]⟩ = some 1 := by simp [findI]
theorem aw1 {n b : Nat} {w : World} (h : Own n w b []) (hn : n ≤ w.heap.size) : Calls Tryz.prog 39 #[.pointer (some ⟨b, 0, none⟩), .agg #[.string ⟨#[115]⟩, .int .i64 1, .bool false]] w fun e w' => e = .returned (.tuple #[.int .i64 0, .int .i64 0]) ∧ Own n w' b [aS] ∧ Kept (From n) w w' := by
  have := h.add hn aS (by decide +kernel)
  simpa [addN, addL, err1] using this
theorem aw2 {n b : Nat} {w : World} (h : Own n w b [aS]) (hn : n ≤ w.heap.size) : Calls Tryz.prog 39 #[.pointer (some ⟨b, 0, none⟩), .agg #[.string ⟨#[97, 100, 100]⟩, .int .i64 2, .bool true]] w fun e w' => e = .returned (.tuple #[.int .i64 1, .int .i64 0]) ∧ Own n w' b [aS, aAdd] ∧ Kept (From n) w w' := by
  have := h.add hn aAdd (by decide +kernel)
  simpa [addN, addL, err2] using this
theorem aw3 {n b : Nat} {w : World} (h : Own n w b [aS, aAdd]) (hn : n ≤ w.heap.size) : Calls Tryz.prog 39 #[.pointer (some ⟨b, 0, none⟩), .agg #[.string ⟨#[115]⟩, .int .i64 0, .bool false]] w fun e w' => e = .returned (.tuple #[.int .i64 0, .int .i64 12]) ∧ Own n w' b [aS, aAdd] ∧ Kept (From n) w w' := by
  have := h.add hn aS0 (by decide +kernel)
  simpa [addN, addL, err3] using this
theorem aw4 {n b : Nat} {w : World} (h : Own n w b [aS, aAdd]) : Calls Tryz.prog 56 #[.pointer (some ⟨b, 0, none⟩), .string ⟨#[97, 100, 100]⟩] w fun e w' => e = .returned (.tuple #[.int .i64 1, .int .i64 0]) ∧ w' = w := by
  have := h.find ⟨#[97, 100, 100]⟩ (by decide +kernel)
  simpa [fnd] using this
theorem aw5 {n b : Nat} {w : World} (h : Own n w b [aS, aAdd]) : Calls Tryz.prog 88 #[.pointer (some ⟨b, 0, none⟩)] w fun e w' => e = .returned (.int .i64 2) ∧ w' = w := by
  have := h.len
  simpa using this
end Go.Proofs.YtbjfpfnfbgncnaaGreatDoor
/- The walk of At: the symbol of a number. -/
namespace Go.Proofs.YtbjfpfnfbgncnaaGreatDoor
set_option maxRecDepth 100000
open Go.RowKit
abbrev noSym : Sym := ⟨⟨#[]⟩, 0, false⟩
theorem SigAt.sym {w : World} {b : Nat} {L : List Sym} {ao : Option Addr} {cap : Nat} {mr : Option Nat} (h : SigAt w b L (.slice ao L.length cap) mr) {i : Nat} (hi : i < L.length) :
    ∃ g, ao = some ⟨g, 0, none⟩ ∧ g < w.heap.size ∧ w.cell? ⟨g, i * 3, none⟩ = some (.string L[i].name) ∧ w.cell? ⟨g, i * 3 + 1, none⟩ = some (.int .i64 L[i].ar) ∧ w.cell? ⟨g, i * 3 + 2, none⟩ = some (.bool L[i].df) := by
  obtain ⟨g, cap', hv, _, hlt⟩ := h.row.form (by omega)
  obtain ⟨rfl, _, rfl⟩ : ao = some ⟨g, 0, none⟩ ∧ L.length = L.length ∧ cap = cap' := by simpa using hv
  have hc := fun j hj => h.row.cellAt j hj
  obtain ⟨a1, a2, a3⟩ := symCells_at hi
  refine ⟨g, rfl, hlt, ?_, ?_, ?_⟩
  · rw [hc _ (by omega), a1]
  · rw [hc _ (by omega), a2]
  · rw [hc _ (by omega), a3]
set_option maxHeartbeats 1000000 in
theorem at_yes {w : World} {b : Nat} {L : List Sym} {sv : Value} {mr : Option Nat} (h : SigAt w b L sv mr) (i : Nat) (hi : i < L.length) :
    Calls Tryz.prog 57 #[.pointer (some ⟨b, 0, none⟩), .int .i64 (i : Int)] w fun e w' => e = .returned (.tuple #[.agg #[.string L[i].name, .int .i64 L[i].ar, .bool L[i].df], .int .i64 0]) ∧ Kept (fun _ => False) w w' := by
  obtain ⟨ao, cap, rfl⟩ := h.sv
  have h1 : ∀ o, SigAt (w.alloc o) b L (.slice ao L.length cap) mr := fun o => h.kept (Kept.alloc (Kept.refl (fun _ => False) w) _) (fun _ _ f => f)
  have c0 : ∀ o, (w.alloc o).cell? ⟨b, 0, none⟩ = some (.slice ao L.length cap) := fun o => cellAt (h1 o).blk 0
  obtain ⟨g, rfl, hg, x0, x1, x2⟩ := h.sym hi
  have hlen := h.len
  have i1 : (0 : Int) ≤ (i : Int) := by omega
  have i2 : (i : Int) < (L.length : Int) := by omega
  go_enter Tryz.func57, Tryz.ntmps57
  go_wp2
  exact bodyPost_ret (v := .tuple #[.agg #[.string L[i].name, .int .i64 L[i].ar, .bool L[i].df], .int .i64 0]) (by simp [results, Tryz.results57, go_sem]) rfl ⟨rfl, Kept.alloc (Kept.refl _ w) _⟩
set_option maxHeartbeats 1000000 in
theorem at_no {w : World} {b : Nat} {L : List Sym} {sv : Value} {mr : Option Nat} (h : SigAt w b L sv mr) (n : Int) (hn : n < 0 ∨ (L.length : Int) ≤ n) :
    Calls Tryz.prog 57 #[.pointer (some ⟨b, 0, none⟩), .int .i64 n] w fun e w' => e = .returned (.tuple #[.agg #[.string ⟨#[]⟩, .int .i64 0, .bool false], .int .i64 14]) ∧ Kept (fun _ => False) w w' := by
  obtain ⟨ao, cap, rfl⟩ := h.sv
  have h1 : ∀ o, SigAt (w.alloc o) b L (.slice ao L.length cap) mr := fun o => h.kept (Kept.alloc (Kept.refl (fun _ => False) w) _) (fun _ _ f => f)
  have c0 : ∀ o, (w.alloc o).cell? ⟨b, 0, none⟩ = some (.slice ao L.length cap) := fun o => cellAt (h1 o).blk 0
  by_cases h0 : n < 0
  · go_enter Tryz.func57, Tryz.ntmps57
    go_wp2
    exact bodyPost_ret (v := .tuple #[.agg #[.string ⟨#[]⟩, .int .i64 0, .bool false], .int .i64 14]) (by simp [results, Tryz.results57, go_sem]) rfl ⟨rfl, Kept.alloc (Kept.refl _ w) _⟩
  · have h2 : (L.length : Int) ≤ n := by omega
    go_enter Tryz.func57, Tryz.ntmps57
    go_wp2
    exact bodyPost_ret (v := .tuple #[.agg #[.string ⟨#[]⟩, .int .i64 0, .bool false], .int .i64 14]) (by simp [results, Tryz.results57, go_sem]) rfl ⟨rfl, Kept.alloc (Kept.refl _ w) _⟩
end Go.Proofs.YtbjfpfnfbgncnaaGreatDoor
