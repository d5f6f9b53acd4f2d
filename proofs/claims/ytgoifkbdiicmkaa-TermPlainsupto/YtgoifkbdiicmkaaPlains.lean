/- The walk of TermPlains. -/
import Derived.Test.YtgoifkbdiicmkaaSameTs
import Derived.Test.YtgoifkbdiicmkaaPuts
namespace Go.Proofs.Ytgoifkbdiicmkaa
set_option linter.unusedVariables false
open Go.RowKit
attribute [local go_sem ↓] Go.wp_at_zero Go.wp_at_succ
/-- Lists of the owner's, whatever they hold. -/
structure Loose (s s2 : Nat) (w5 wr : World) (g n : Nat) (cs : List Value) (i0 : Nat) : Prop where
  pl : ∃ done : List (List Int), done.length = n ∧ PlAt s wr g n cs done
  own : ∀ v ∈ cs, ∀ k, v.ownBlock = some k → k < s2 ∨ w5.heap.size ≤ k
  gs : g < s2
  sz : ∀ j v, cs[j]? = some v → ∃ ao m cap, v = .slice ao m cap ∧ (i0 ≤ j → m ≤ 1048576)
  k : Kept (fun k => s ≤ k ∧ k < s2) w5 wr
theorem Loose.cell {s s2 : Nat} {w5 wr : World} {g n i0 : Nat} {cs : List Value} (h : Loose s s2 w5 wr g n cs i0) {i : Nat} (hi : i < n) : ∃ v, cs[i]? = some v ∧ wr.cell? ⟨g, i, none⟩ = some v ∧ wr.frozen? ⟨g, i, none⟩ = false ∧ ∃ xs, Row s wr v xs ∧ v.ownBlock ≠ some g := by
  obtain ⟨done, hd, hp⟩ := h.pl
  obtain ⟨v, h1, h2, h3⟩ := hp.cell hi
  obtain ⟨v', g1, g2, g3⟩ := hp.each i (by omega)
  rw [h1] at g1
  cases g1
  exact ⟨v, h1, h2, h3, _, g2, g3⟩
theorem PlAt.set {s : Nat} {wr : World} {g n : Nat} {cs : List Value} {done : List (List Int)} (h : PlAt s wr g n cs done) {i k r m cap : Nat} (hi : i < done.length) (hc : cs[i]? = some (.slice (some ⟨r, 0, none⟩) m cap)) (hk : k < m) (x : Int) : ∃ done', done'.length = done.length ∧ PlAt s (wr.setCell ⟨r, k, none⟩ (.int .i64 x)) g n cs done' := by
  obtain ⟨v, h1, h2, h3⟩ := h.each i hi
  rw [hc] at h1
  cases h1
  have hm : done[i].length = m := by
    obtain ⟨ao, c', hv, _⟩ := h2.ints
    simp only [Value.slice.injEq] at hv
    exact hv.2.1.symm
  have hrg : r ≠ g := fun e => h3 (by rw [e]; rfl)
  have ks : Kept (fun k => k = r) wr (wr.setCell ⟨r, k, none⟩ (.int .i64 x)) := Kept.setCell (S := fun k => k = r) (p := ⟨r, k, none⟩) (Kept.refl _ _) (fun _ => rfl) _
  refine ⟨done.set i (done[i].set k x), by simp, ⟨ks.row h.row (fun k' e e' => hrg (by simp [Value.ownBlock] at e; omega)), by simpa using h.len, fun j hj => ?_, fun a b va vb ha hb => h.apart a b va vb (by simpa using ha) (by simpa using hb)⟩⟩
  have hj' : j < done.length := by simpa using hj
  by_cases e : i = j
  · subst e
    refine ⟨_, hc, ?_, h3⟩
    rw [List.getElem_set_self]
    have h2' := h2
    unfold Row at h2' ⊢
    rw [List.length_set]
    rw [hm] at h2' ⊢
    have := (h2'.stored k (.int .i64 x)).1
    have e2 : iv (done[i].set k x) = (iv done[i]).set k (.int .i64 x) := by simp [iv, List.map_set]
    rw [e2]; exact this
  · obtain ⟨v', g1, g2, g3⟩ := h.each j hj'
    refine ⟨v', g1, ?_, g3⟩
    rw [List.getElem_set_ne e]
    refine ks.row g2 (fun k' e1 e2 => ?_)
    exact h.apart j i v' _ hj' hi (by omega) g1 hc k' e1 (by simp [Value.ownBlock]; omega)
theorem Loose.put {s s2 : Nat} {w5 wr : World} {g n i0 : Nat} {cs : List Value} (h : Loose s s2 w5 wr g n cs i0) {i k m cap : Nat} {ro : Option Addr} (hi : i < n) (hc : cs[i]? = some (.slice ro m cap)) (hk : k < m) (x : Int) :
    ∃ r, ro = some ⟨r, 0, none⟩ ∧ (∃ old, wr.cell? ⟨r, k, none⟩ = some old) ∧ wr.frozen? ⟨r, k, none⟩ = false ∧ Loose s s2 w5 (wr.setCell ⟨r, k, none⟩ (.int .i64 x)) g n cs i0 := by
  obtain ⟨v, h1, _, _, xs, hr, _⟩ := h.cell hi
  rw [hc] at h1
  cases h1
  have hm : xs.length = m := by
    obtain ⟨ao, c', hv, _⟩ := hr.ints
    simp only [Value.slice.injEq] at hv
    exact hv.2.1.symm
  obtain ⟨r, cap', hv, hb, hlt⟩ := hr.form (by omega)
  simp only [Value.slice.injEq] at hv
  obtain ⟨rfl, _, rfl⟩ := hv
  have hr' := hr
  unfold Row at hr'
  rw [hm] at hr'
  obtain ⟨old, y1, y2⟩ := row_put hr' hk
  obtain ⟨done, hd, hp⟩ := h.pl
  obtain ⟨done', e1, e2⟩ := hp.set (by omega) hc hk x
  refine ⟨r, rfl, ⟨old, y1⟩, y2, ⟨done', by omega, e2⟩, h.own, h.gs, h.sz, h.k.setCell (p := ⟨r, k, none⟩) (fun hl => ?_) _⟩
  have := h.own _ (List.mem_of_getElem? hc) r rfl
  simp at hl ⊢
  omega
theorem Loose.app {s s2 : Nat} {w5 wr w' : World} {g n i : Nat} {cs : List Value} (h : Loose s s2 w5 wr g n cs i) {v : Value} {ys : List Int} {r m cap : Nat} (hi : i < n) (hc : cs[i]? = some v) (hr' : Row s w' (.slice (some ⟨r, 0, none⟩) m cap) ys) (hk : Kept (fun k => v.ownBlock = some k) wr w') (hat : v.ownBlock = some r ∨ wr.heap.size ≤ r) :
    Loose s s2 w5 (w'.setCell ⟨g, i, none⟩ (.slice (some ⟨r, 0, none⟩) m cap)) g n (cs.set i (.slice (some ⟨r, 0, none⟩) m cap)) (i + 1) := by
  obtain ⟨done, hd, hp⟩ := h.pl
  have hl : cs.length = n := by have := hp.row.1; omega
  obtain ⟨v0, g1, g2, g3⟩ := hp.each i (by omega)
  rw [hc] at g1
  cases g1
  have gl := hp.row.lt g rfl
  have hrg : r ≠ g := by
    rcases hat with e | e
    · intro e'; exact g3 (by rw [e, e'])
    · omega
  have ks : Kept (fun k => k = g) w' (w'.setCell ⟨g, i, none⟩ (.slice (some ⟨r, 0, none⟩) m cap)) := Kept.setCell (S := fun k => k = g) (p := ⟨g, i, none⟩) (Kept.refl _ _) (fun _ => rfl) _
  have row1 := hk.row hp.row (fun k e e' => g3 (by simp [Value.ownBlock] at e; rw [e', e]))
  have others : ∀ j vj, j < done.length → j ≠ i → cs[j]? = some vj → ∀ k, vj.ownBlock = some k → ¬ k = r := by
    intro j vj hj hji hcj k e e'
    subst e'
    rcases hat with e2 | e2
    · exact hp.apart j i vj v hj (by omega) hji hcj hc k e e2
    · obtain ⟨u, q1, q2, _⟩ := hp.each j hj
      rw [hcj] at q1
      cases q1
      have := (q2.lt k e).2
      omega
  have sz := h.k.size
  refine ⟨⟨done.set i ys, by simpa using hd, ⟨(row1.stored i _).1, by simp; omega, fun j hj => ?_, ?_⟩⟩, ?_, h.gs, ?_, ?_⟩
  · have hj' : j < done.length := by simpa using hj
    by_cases e : i = j
    · subst e
      refine ⟨_, List.getElem?_set_self (by omega), ?_, by simpa [Value.ownBlock] using hrg⟩
      rw [List.getElem_set_self]
      exact ks.row hr' (fun k e e' => by simp [Value.ownBlock] at e; omega)
    · obtain ⟨vj, q1, q2, q3⟩ := hp.each j hj'
      refine ⟨vj, by rw [List.getElem?_set_ne e]; exact q1, ?_, q3⟩
      rw [List.getElem_set_ne e]
      refine ks.row (hk.row q2 (fun k e1 e2 => ?_)) (fun k e1 e2 => q3 (by rw [e1, e2]))
      exact hp.apart j i vj v hj' (by omega) (by omega) q1 hc k e1 e2
  · intro a b va vb ha hb hab hva hvb k hk1 hk2
    have ha' : a < done.length := by simpa using ha
    have hb' : b < done.length := by simpa using hb
    by_cases e1 : i = a
    · subst e1
      rw [List.getElem?_set_self (by omega)] at hva
      cases hva
      rw [List.getElem?_set_ne hab] at hvb
      simp only [Value.ownBlock, Option.some.injEq] at hk1
      exact others b vb hb' (by omega) hvb k hk2 hk1.symm
    · rw [List.getElem?_set_ne e1] at hva
      by_cases e2 : i = b
      · subst e2
        rw [List.getElem?_set_self (by omega)] at hvb
        cases hvb
        simp only [Value.ownBlock, Option.some.injEq] at hk2
        exact others a va ha' (by omega) hva k hk1 hk2.symm
      · rw [List.getElem?_set_ne e2] at hvb
        exact hp.apart a b va vb ha' hb' hab hva hvb k hk1 hk2
  · intro u hu k e
    rcases List.mem_or_eq_of_mem_set hu with hu | hu
    · exact h.own u hu k e
    · subst hu
      simp only [Value.ownBlock, Option.some.injEq] at e
      subst e
      rcases hat with e | e
      · exact h.own v (List.mem_of_getElem? hc) r e
      · right; omega
  · intro j u hu
    by_cases e : i = j
    · subst e
      rw [List.getElem?_set_self (by omega)] at hu
      cases hu
      exact ⟨_, _, _, rfl, fun h => by omega⟩
    · rw [List.getElem?_set_ne e] at hu
      obtain ⟨ao, m', c', e1, e2⟩ := h.sz j u hu
      exact ⟨ao, m', c', e1, fun h => e2 (by omega)⟩
  · have k1 : Kept (fun k => s ≤ k ∧ k < s2) w5 w' := h.k.trans hk (fun j hj e => by
      have h1 := g2.lt j e
      have h2 := h.own v (List.mem_of_getElem? hc) j e
      omega)
    exact k1.setCell (p := ⟨g, i, none⟩) (fun _ => ⟨gl.1, h.gs⟩) _
theorem Loose.after {s s2 : Nat} {w5 wr w' : World} {g n i0 : Nat} {cs : List Value} (h : Loose s s2 w5 wr g n cs i0) {i : Nat} {v : Value} (hi : i < n) (hc : cs[i]? = some v) (hk : Kept (fun k => v.ownBlock = some k) wr w') : w'.cell? ⟨g, i, none⟩ = some v ∧ w'.frozen? ⟨g, i, none⟩ = false := by
  obtain ⟨done, hd, hp⟩ := h.pl
  obtain ⟨v0, g1, g2, g3⟩ := hp.each i (by omega)
  rw [hc] at g1
  cases g1
  have row1 := hk.row hp.row (fun k e e' => g3 (by simp [Value.ownBlock] at e; rw [e', e]))
  exact ⟨(row1.cellAt i (by omega)).trans hc, row1.frozenAt i⟩
theorem plains_le {ls : List (List Int)} (h : ∀ t ∈ ls, t.length ≤ 1048576) : ∀ t ∈ plains ls, t.length ≤ 1048576 := by
  intro t ht
  simp only [plains, List.mem_map] at ht
  obtain ⟨x, hx, rfl⟩ := ht
  simpa using h x hx
set_option maxRecDepth 8000 in
set_option maxHeartbeats 8000000 in
theorem plains_walk (lo : Option Addr) (lcap : Nat) (ls : List (List Int)) (w : World) (hl : Lists w lo ls) (hn : ls.length ≤ 1048576) (hb : ∀ t ∈ ls, t.length ≤ 1048576) :
    Calls Try.prog 8 #[.slice lo ls.length lcap] w fun e w' => e = .returned (.bool true) ∧ Below w.heap.size w w' := by
  have HB : Hid (∀ t ∈ ls, t.length ≤ 1048576) := hb
  have HBP : Hid (∀ t ∈ plains ls, t.length ≤ 1048576) := plains_le hb
  have hpl := plains_length ls
  have HPL : Hid ((plains ls).length = ls.length) := hpl
  clear hb hpl
  go_enter Try.func8, Try.ntmps8
  go_wp2_with fail
  refine (awake2_any _).mono ?_
  rintro e w1 ⟨rfl, k1⟩
  go_wp2_with fail
  refine (tplain_any (hl.same k1) hn HB.out).mono ?_
  rintro e w2 ⟨ga, ca, rfl, pa, k2⟩
  go_wp2_with fail
  refine (tplain_any (hl.same (k1.trans' k2)) hn HB.out).mono ?_
  rintro e w3 ⟨gb, cb, rfl, pb, k3⟩
  go_wp2_with fail
  refine (rplain_any (hl.same ((k1.trans' k2).trans' k3)) hn HB.out).mono ?_
  rintro e w4 ⟨vw, rfl, ow, k4⟩
  have oa4 : OutAt w1.heap.size w4 (.slice (some ⟨ga, 0, none⟩) ls.length ls.length) (plains ls) := ((pa.out HPL.out).same k3).same k4
  have ob4 : OutAt w2.heap.size w4 (.slice (some ⟨gb, 0, none⟩) ls.length ls.length) (plains ls) := (pb.out HPL.out).same k4
  have pa4 := (pa.same k3).same k4
  obtain ⟨wo, wcap, rfl, tw⟩ := ow.told
  have cS : ∀ wr b (vo : Option Addr) vcap, OutAt b wr (.slice vo ls.length vcap) (plains ls) → Told wr wo (plains ls) → Calls Try.prog 33 #[.slice vo ls.length vcap, .slice wo ls.length wcap] wr fun e w' => e = .returned (.bool true) ∧ Same0 wr w' := by
    intro wr b vo vcap h1 h2
    obtain ⟨vo', vcap', e1, h3⟩ := h1.told
    simp only [Value.slice.injEq] at e1
    obtain ⟨rfl, _, rfl⟩ := e1
    have := sameTs_any (acap := vcap) (bcap := wcap) h3 h2 (by rw [HPL.out]; exact hn) HBP.out
    rw [HPL.out] at this
    exact this
  have HCS : Hid (∀ wr b (vo : Option Addr) vcap, OutAt b wr (.slice vo ls.length vcap) (plains ls) → Told wr wo (plains ls) → Calls Try.prog 33 #[.slice vo ls.length vcap, .slice wo ls.length wcap] wr fun e w' => e = .returned (.bool true) ∧ Same0 wr w') := cS
  rw [HPL.out]
  have c1 := cS _ _ _ _ oa4 tw
  clear cS
  go_wp2_with fail
  refine c1.mono ?_
  rintro e w5 ⟨rfl, k5⟩
  have K15 : Same0 w1 w5 := ((k2.trans' k3).trans' k4).trans' k5
  have K5 : Same0 w w5 := k1.trans' K15
  have zs1 := k1.size
  have z2 := k2.size
  have z3 := k3.size
  have ob5 := ob4.same k5
  have ow5 := ow.same k5
  have gal := pa.row.lt ga rfl
  have L0 : Loose w1.heap.size w2.heap.size w5 w5 ga ls.length ca 0 := by
    refine ⟨⟨plains ls, HPL.out, pa4.same k5⟩, ?_, gal.2, ?_, Kept.refl _ _⟩
    · intro v hv k e
      obtain ⟨j, hj⟩ := List.mem_iff_getElem?.1 hv
      have hjl : j < ca.length := (List.getElem?_eq_some_iff.1 hj).1
      have hcl : ca.length = ls.length := by have := pa.row.1; omega
      obtain ⟨v', g1, g2, _⟩ := pa.each j (by rw [HPL.out]; omega)
      rw [hj] at g1
      cases g1
      exact .inl (g2.lt k e).2
    · intro j v hj
      have hjl : j < ca.length := (List.getElem?_eq_some_iff.1 hj).1
      have hcl : ca.length = ls.length := by have := pa.row.1; omega
      have hjp : j < (plains ls).length := by rw [HPL.out]; omega
      obtain ⟨v', g1, g2, _⟩ := pa.each j hjp
      rw [hj] at g1
      cases g1
      obtain ⟨ao, cap, e1, _⟩ := g2.ints
      have := HBP.out (plains ls)[j] (List.getElem_mem hjp)
      exact ⟨ao, _, cap, e1, fun _ => this⟩
  clear c1 oa4 ob4 pa4 pa pb ow k2 k3 k4 k5 tw
  go_wp2
  go_loopw [8] (fun iv' wr => ∃ (i : Nat) (cs : List Value), i ≤ ls.length ∧ iv' = .int .i64 (i : Int) ∧ Loose w1.heap.size w2.heap.size w5 wr ga ls.length cs i) (fun iv' _ => ls.length - (intOf iv').toNat)
  case atStart => exact ⟨0, ca, Nat.zero_le _, rfl, L0⟩
  case round =>
    clear L0
    obtain ⟨i, cs, hile, rfl, hL⟩ := hrel
    rename World => wa
    by_cases hlt : i < ls.length
    · obtain ⟨v, hc, hcell, _, xs, hrx, hvg⟩ := hL.cell hlt
      obtain ⟨ro, m, cap, rfl, hm'⟩ := hL.sz _ _ hc
      have hm := hm' (Nat.le_refl _)
      clear hm'
      have i1 : (0 : Int) ≤ (i : Int) := by omega
      have i2 : (i : Int) < (ls.length : Int) := by omega
      clear hcell hrx hvg xs
      go_wp2
      go_loopw [9] (fun kv wr => ∃ k : Nat, k ≤ m ∧ kv = .int .i64 (k : Int) ∧ Loose w1.heap.size w2.heap.size w5 wr ga ls.length cs i) (fun kv _ => m - (intOf kv).toNat)
      case atStart => exact ⟨0, Nat.zero_le _, rfl, hL⟩
      case round =>
        clear hL
        obtain ⟨k, hkle, rfl, hL⟩ := hrel
        rename World => wb
        obtain ⟨v, hc', hcell, hfz, xs, hrx, hvg⟩ := hL.cell hlt
        rw [hc] at hc'
        cases hc'
        by_cases hkl : k < m
        · obtain ⟨r, rfl, ⟨old, y1⟩, y2, hL2⟩ := hL.put hlt hc hkl (1000 + (i : Int))
          have j1 : (0 : Int) ≤ (k : Int) := by omega
          have j2 : (k : Int) < (m : Int) := by omega
          clear hL hrx
          go_wp2
          go_roundw
          case rel => first | exact ⟨k + 1, by omega, by go_num, hL2⟩ | ((repeat apply Exists.intro); exact ⟨⟨k + 1, by omega, by go_num, hL2⟩, rfl⟩)
          case measure => simp [intOf]; omega
        · obtain rfl : k = m := by omega
          have hxm : xs.length = k := by
            obtain ⟨ao, c', hv, _⟩ := hrx.ints
            simp only [Value.slice.injEq] at hv
            exact hv.2.1.symm
          obtain ⟨j0, hj0, hz0, hz1, hz2⟩ := info_parts info_int
          have hrx' := hrx
          unfold Row at hrx'
          rw [hxm] at hrx'
          have b1 : k + 2 ≤ maxLen := by unfold maxLen; omega
          have b2 : (k + 2) * 8 ≤ 140737488355328 := by omega
          have zb := hL.k.size
          have z15 := K15.size
          have b3 : w1.heap.size ≤ (wb.alloc (.cells #[.int .i64 2000, .int .i64 2000] 3)).heap.size := by simp; omega
          have HAP : Hid (∀ gg gcap w9, w9.ownsRow w1.heap.size 3 1 (.slice (some ⟨gg, 0, none⟩) (k + 2) gcap) (k + 2) (iv xs ++ [.int .i64 2000, .int .i64 2000]) → (wb.alloc (.cells #[.int .i64 2000, .int .i64 2000] 3)).grownBy w9 (Value.ownBlock (.slice ro k cap)) → (Value.ownBlock (.slice ro k cap) = some gg ∨ gg = wb.heap.size + 1) →
              (w9.cell? ⟨ga, i, none⟩ = some (.slice ro k cap) ∧ w9.frozen? ⟨ga, i, none⟩ = false) ∧ Loose w1.heap.size w2.heap.size w5 (w9.setCell ⟨ga, i, none⟩ (.slice (some ⟨gg, 0, none⟩) (k + 2) gcap)) ga ls.length (cs.set i (.slice (some ⟨gg, 0, none⟩) (k + 2) gcap)) (i + 1)) := by
            intro gg gcap w9 hown hgrow hat
            have kk : Kept (fun k' => Value.ownBlock (.slice ro k cap) = some k') wb w9 := Kept.grown (Kept.alloc (Kept.refl _ wb) _) hgrow (fun _ e _ => e)
            refine ⟨hL.after hlt hc kk, hL.app (ys := xs ++ [2000, 2000]) hlt hc ?_ kk (hat.imp id (fun e => by omega))⟩
            unfold Row
            rw [iv_append, List.length_append, hxm]
            exact hown
          clear hrx hL
          go_wp2_with (first | (at_builtin; refine wpList_append_lies _ rfl (.tmp 53) (.tmp 54) 25 rfl w1.heap.size 3 j0 _ 1 8 Try.underlying25 hj0 hz0 hz1 hz2 rfl (by omega) (.slice ro k cap) k (iv xs) rfl (hrx'.alloc _) ⟨wb.heap.size, 0, none⟩ 2 2 [.int .i64 2000, .int .i64 2000] rfl rfl (World.news_of_block (cs := #[.int .i64 2000, .int .i64 2000]) (t := 3) (fr := (0, 0)) (heap_alloc_new wb _)) (by simp [Value.oneCell']) (by omega) b1 b2 b3 (wb.heap.size + 1) (by simp) ?_; intro gg gcap w9 hown hgrow hat hglt; obtain ⟨⟨y1, y2⟩, hL9⟩ := HAP.out gg gcap w9 hown hgrow hat))
          go_roundw
          case rel => first | exact ⟨i + 1, _, by omega, by go_num, hL9⟩ | ((repeat apply Exists.intro); exact ⟨⟨i + 1, _, by omega, by go_num, hL9⟩, rfl⟩)
          case measure => simp [intOf]; omega
    · have hk := hL.k
      have ob6 : OutAt w2.heap.size wa (.slice (some ⟨gb, 0, none⟩) ls.length ls.length) (plains ls) := ob5.keep hk (fun k h1 h2 => by omega)
      have ow6 : OutAt w3.heap.size wa (.slice wo (plains ls).length wcap) (plains ls) := ow5.keep hk (fun k h1 h2 => by omega)
      obtain ⟨wo', wcap', e1, tw6⟩ := ow6.told
      simp only [Value.slice.injEq] at e1
      obtain ⟨rfl, _, rfl⟩ := e1
      have c2 := HCS.out _ _ _ _ ob6 tw6
      have K6 : Same0 w wa := Same0.after K5 hk (fun j hj e => by omega)
      clear hL hk ob6 ow6 ob5 ow5 tw6
      go_wp2_with fail
      refine c2.mono ?_
      rintro e w7 ⟨rfl, k7⟩
      have K7 := K6.trans' k7
      clear c2 k7
      go_wp2
      go_loopw [11] (fun iv' wr => ∃ i : Nat, i ≤ ls.length ∧ iv' = .int .i64 (i : Int) ∧ Same0 w wr) (fun iv' _ => ls.length - (intOf iv').toNat)
      case atStart => exact ⟨0, Nat.zero_le _, rfl, K7⟩
      case round =>
        obtain ⟨q, hqle, rfl, hs8⟩ := hrel
        rename World => wc
        by_cases hql : q < ls.length
        · obtain ⟨lb, loff, ao, cap, rfl, hlb, hlc, hia, _⟩ := (hl.same hs8).get hql
          have hti := HB.out ls[q] (List.getElem_mem hql)
          have hvl : (varsL ls[q]).length ≤ 1048576 := by have := vs_len [] ls[q]; unfold varsL; simp only [List.length_nil, Nat.zero_add] at this; omega
          have HLC : Hid (∀ w', Same0 wc w' → w'.cell? ⟨lb, loff + q, none⟩ = some (.slice ao ls[q].length cap)) := fun w' k => (k.cell (p := ⟨lb, loff + q, none⟩) hlb (fun f => f)).trans hlc
          have cX := tvars_any (cap := cap) hia (by omega)
          have q1 : (0 : Int) ≤ (q : Int) := by omega
          have q2 : (q : Int) < (ls.length : Int) := by omega
          generalize ls[q] = t at *
          go_wp2_with fail
          refine cX.mono ?_
          rintro e w9 ⟨vx, rfl, rx, k9⟩
          have hlc9 := HLC.out _ k9
          have cY := tvars_any (cap := cap) (hia.same k9) (by omega)
          clear cX hlc
          go_wp2_with fail
          refine cY.mono ?_
          rintro e w10 ⟨vy, rfl, ry, k10⟩
          have hlc10 := HLC.out _ (k9.trans' k10)
          have cZ := rvars_any (cap := cap) (hia.same (k9.trans' k10)) (by omega)
          clear cY hlc9
          go_wp2_with fail
          refine cZ.mono ?_
          rintro e w11 ⟨vz, rfl, rz, k11⟩
          have rx11 := Kept.row k11 (Kept.row k10 rx (fun _ _ f => f)) (fun _ _ f => f)
          have ry11 := Kept.row k11 ry (fun _ _ f => f)
          have s9 := k9.size
          have s10 := k10.size
          have s11 := k11.size
          have cP := apart_rows rx11 ry11 rz (by omega) (fun k e => ⟨fun e' => by have := (rx.lt k e).2; have := (ry.lt k e').1; omega, fun e' => by have := (rx.lt k e).2; have := (rz.lt k e').1; omega⟩) (by omega)
          clear cZ hlc10
          go_wp2_with fail
          refine cP.mono ?_
          rintro e w12 ⟨rfl, k12⟩
          have sc := hs8.size
          have K12 : Same0 w w12 := Same0.after (((hs8.trans' k9).trans' k10).trans' k11) k12 (fun j hj e => by have := (rx.lt j e).1; omega)
          clear cP rx ry rz rx11 ry11 k12
          go_wp2
          exact ⟨⟨q + 1, by omega, by go_num, K12⟩, by simp [intOf]; omega⟩
        · go_wp2
          go_ret
          exact ⟨rfl, hs8.below⟩
end Go.Proofs.Ytgoifkbdiicmkaa
