/- The walk of Add: what it answers, and what becomes of the signature. -/
import Derived.Test.YtikcocjbbbdmgaaSigWalks
import Derived.Deep.RegionLaw
import Derived.Deep.DeepCutAuto
namespace Go.Proofs.Ytikcocjbbbdmgaa
set_option maxRecDepth 100000
open Go.RowKit
/-- What Add leaves: the symbols, the number, the error. -/
def addL (L : List Sym) (x : Sym) : List Sym := if addErr L x = 0 then L ++ [x] else L
def addN (L : List Sym) (x : Sym) : Int := if addErr L x = 0 then (L.length : Int) else 0
theorem map_empty (w : World) : MapIs (w.alloc (.map #[] 0)) (some w.heap.size) [] :=
  ⟨0, _, World.ownsMap_made w Try.prog _ _, Nat.le_refl _, fun s => ⟨rfl, fun i h => by simp [findI] at h⟩⟩
theorem add_zero {L : List Sym} {x : Sym} (h : addErr L x = 0) : findI L x.name = none ∧ nameB x.name = true ∧ L.length < 64 := by
  unfold addErr at h
  by_cases h1 : nameB x.name = false
  · simp [h1] at h
  · rw [if_neg h1] at h
    by_cases h2 : x.ar < 0 ∨ 6 < x.ar
    · simp [h2] at h
    · rw [if_neg h2] at h
      by_cases h3 : (findI L x.name).isSome
      · simp [h3] at h
      · rw [if_neg h3] at h
        by_cases h4 : 64 ≤ L.length
        · simp [h4] at h
        · exact ⟨by simpa using h3, by simpa using h1, by omega⟩
theorem add_ar {L : List Sym} {x : Sym} (h : addErr L x = 0) : 0 ≤ x.ar ∧ x.ar ≤ 6 := by
  unfold addErr at h
  by_cases h1 : nameB x.name = false
  · simp [h1] at h
  · rw [if_neg h1] at h
    by_cases h2 : x.ar < 0 ∨ 6 < x.ar
    · simp [h2] at h
    · omega
theorem blk_grown {w w1 : World} {o ob : Obj} {b : Nat} {v : Value} (hg : (w.alloc o).drew.grownBy w1 v.ownBlock) (hb : w.heap[b]? = some ob) (hne : v.ownBlock ≠ some b) : w1.heap[b]? = some ob := by
  have hlt := lt_of_at hb
  rw [hg.block b (by simp; omega) (Ne.symm hne)]
  exact (heap_alloc_old w o hlt).trans hb
theorem map_put {w w' : World} {bm : Nat} {L : List Sym} {x : Sym} {n : Nat} {D : DataW Unit} (hf : findI L x.name = none) (hm : w.ownsMap Try.prog 9 (plainElem Try.prog 3) bm n D) (hn : n ≤ L.length)
    (hall : ∀ s : ByteArray, Maps.has D (.string s.data.toList) = (findI L s).isSome ∧ ∀ i, findI L s = some i → D.atKey (.string s.data.toList) (.lit (.int .i64 0)) = .lit (.int .i64 (i : Int)))
    (hm' : w'.ownsMap Try.prog 9 (plainElem Try.prog 3) bm (n + 1) (D.put (.string x.name.data.toList) (.lit (.int .i64 (L.length : Int))))) : MapIs w' (some bm) (L ++ [x]) := by
  refine ⟨n + 1, _, hm', by simp; omega, fun s => ?_⟩
  have hk : WideAt.IsKeyLit (.string x.name.data.toList) := trivial
  rw [findI_snoc]
  by_cases hs : x.name = s
  · subst hs
    rw [hf, Maps.has_put_same hm.isMap hk, Maps.atKey_put_same hm.isMap hk]
    simp
  · have hne : Lit.string s.data.toList ≠ Lit.string x.name.data.toList := by
      intro e
      apply hs
      have e1 : s.data.toList = x.name.data.toList := by simpa using e
      have e2 : s.data = x.name.data := Array.toList_inj.1 e1
      cases s; cases hx : x.name; simp_all
    rw [Maps.has_put_other hne, Maps.atKey_put_other hne, (hall s).1]
    cases hfs : findI L s with
    | none => simp [hs]
    | some i => simpa using (hall s).2 i hfs
theorem row_not_map {w : World} {e : TypeId} {v : Value} {n : Nat} {xs : List Value} {bm : Nat} {es : Array MapEntry} {clock : Nat} (hr : w.ownsRow 0 e 3 v n xs) (hb : w.heap[bm]? = some (.map es clock)) : v.ownBlock ≠ some bm := fun e => by
  rcases hr.2 with ⟨rfl, _⟩ | ⟨g, c, cur, rfl, _, hg, _⟩
  · simp [Value.ownBlock] at e
  · simp [Value.ownBlock] at e; subst e; rw [hg] at hb; simp at hb
end Go.Proofs.Ytikcocjbbbdmgaa
