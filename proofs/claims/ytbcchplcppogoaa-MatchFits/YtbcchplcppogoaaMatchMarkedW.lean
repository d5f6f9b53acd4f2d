/- The walk of marked of layer 5's statements: each bind is marked by itself, all are grown, and they are as they were marked. -/
import Derived.Test.YtbcchplcppogoaaMatchMarked
namespace Go.Proofs.Ytbcchplcppogoaa
set_option maxRecDepth 100000
set_option linter.unusedVariables false
open Go.RowKit
attribute [local go_sem ↓] Go.wp_at_zero Go.wp_at_succ
/-- A term that is grown: in its own block, or in one of nobody's. -/
structure GR (base : Nat) (w wr : World) (v : Value) (tvs : List Value) (bs : List Bd) (i : Nat) (l : List (Int × Value)) (cur : List Bd) (r cap e g c : Nat) (ys : List Int) : Prop where
  mka : MkAt base w wr v tvs bs i l cur
  row : Row base wr (.slice (some ⟨g, 0, none⟩) ys.length c) ys
  len : ys.length ≤ 2000 + e
  wh : (g = r ∧ c = cap ∧ ∃ (hc : i < cur.length) (ex : List Int), ys = cur[i].2 ++ ex) ∨ (¬ FB v tvs g ∧ w.heap.size ≤ g)
theorem MkAt.quiet {base : Nat} {w wr w' : World} {v : Value} {tvs : List Value} {bs : List Bd} {i : Nat} {l : List (Int × Value)} {cur : List Bd} {S : Nat → Prop} (h : MkAt base w wr v tvs bs i l cur) (hk : Kept S wr w') (hs : ∀ k, FB v tvs k → ¬ S k) (hn : ∀ k, k < w.heap.size → ¬ S k) : MkAt base w w' v tvs bs i l cur :=
  ⟨h.own.apartB hk (fun k q => hs k (by rw [← h.tv]; exact fb_of.1 q)), h.tv, h.len, h.lens, h.done, h.kept.trans hk (fun k hk e => absurd e (hn k hk))⟩
theorem GR.room {base : Nat} {w wr w' : World} {v : Value} {tvs : List Value} {bs : List Bd} {i : Nat} {l : List (Int × Value)} {cur : List Bd} {r cap e g c : Nat} {ys : List Int} (h : GR base w wr v tvs bs i l cur r cap e g c ys) (hl : i < l.length) {m : Nat} (hf : l[i].2 = .slice (some ⟨r, 0, none⟩) m cap) {y : Int}
    (hr : Row base w' (.slice (some ⟨g, 0, none⟩) (ys.length + 1) c) (ys ++ [y])) (hk : Kept (fun k => k = g) wr w') : GR base w w' v tvs bs i l cur r cap (e + 1) g c (ys ++ [y]) := by
  have hr' : Row base w' (.slice (some ⟨g, 0, none⟩) (ys ++ [y]).length c) (ys ++ [y]) := by rw [List.length_append]; exact hr
  have hlen : (ys ++ [y]).length ≤ 2000 + (e + 1) := by have := h.len; simp; omega
  rcases h.wh with ⟨rfl, rfl, hc, ex, hy⟩ | ⟨h1, h2⟩
  · have hob : l[i].2.ownBlock = some g := by rw [hf]; rfl
    have hrow0 := (h.mka.own.each i hl hc).2.1
    have hm : m = cur[i].2.length := by
      rw [hf] at hrow0
      rcases hrow0.2 with ⟨q, _⟩ | ⟨g', c', cu, q, _⟩
      · cases q
      · simp only [Value.slice.injEq] at q; exact q.2.1
    have hcut : Row base w' l[i].2 cur[i].2 := by
      rw [hf, hm]
      rw [hy, List.append_assoc] at hr'
      exact row_cut hr'
    have hB := h.mka.own.turn hl hob hcut hk hc
    have eset : cur.set i (cur[i].1, cur[i].2) = cur := List.set_getElem_self _
    rw [eset] at hB
    refine ⟨⟨hB, h.mka.tv, h.mka.len, h.mka.lens, h.mka.done, h.mka.kept.trans hk (fun b _ e => by subst e; exact .inr ⟨l[i].2, by rw [← h.mka.tv]; exact List.mem_map.2 ⟨l[i], List.getElem_mem hl, rfl⟩, hob⟩)⟩, hr', hlen, .inl ⟨rfl, rfl, hc, ex ++ [y], by rw [hy, List.append_assoc]⟩⟩
  · exact ⟨h.mka.quiet hk (fun k q e => by subst e; exact h1 q) (fun k q e => by omega), hr', hlen, .inr ⟨h1, h2⟩⟩
theorem FB.lt {base : Nat} {w : World} {v : Value} {l : List (Int × Value)} {cur : List Bd} (h : BOwn base w v l cur) {k : Nat} (hk : FB v (l.map Prod.snd) k) : k < w.heap.size := by
  rcases fb_of.2 hk with e | ⟨p, hp, e⟩
  · exact (h.row.lt k e).2
  · obtain ⟨i, hi, rfl⟩ := List.getElem_of_mem hp
    exact ((h.each i hi (by rw [← h.len]; exact hi)).2.1.lt k e).2
theorem GR.full {base : Nat} {w wr w' : World} {v : Value} {tvs : List Value} {bs : List Bd} {i : Nat} {l : List (Int × Value)} {cur : List Bd} {r cap e g c : Nat} {ys : List Int} (h : GR base w wr v tvs bs i l cur r cap e g c ys) (hb : base ≤ wr.heap.size) {y : Int} {v' : Value}
    (hr : Row wr.heap.size w' v' (ys ++ [y])) (hk : Same0 wr w') : ∃ g' c', v' = .slice (some ⟨g', 0, none⟩) (ys.length + 1) c' ∧ GR base w w' v tvs bs i l cur r cap (e + 1) g' c' (ys ++ [y]) := by
  have hlen : (ys ++ [y]).length ≤ 2000 + (e + 1) := by have := h.len; simp; omega
  have hel : (ys ++ [y]).length = ys.length + 1 := by simp
  rcases hr.2 with ⟨q, h0⟩ | ⟨g', c', cu, hv, hg, _⟩
  · simp at h0
  · subst hv
    refine ⟨g', c', by rw [hel], h.mka.quiet hk (fun _ _ f => f) (fun _ _ f => f), row_mono hr hb, hlen, .inr ⟨fun q => ?_, ?_⟩⟩
    · rw [← h.mka.tv] at q
      have := FB.lt h.mka.own q; omega
    · have := h.mka.kept.size; omega
set_option maxHeartbeats 16000000 in
theorem marked_any {base : Nat} {w : World} {v : Value} {l : List (Int × Value)} {bs : List Bd} (h : BOwn base w v l bs) (hb : base ≤ w.heap.size) (hn : bs.length ≤ 100) (hne : ∀ b ∈ bs, b.2 ≠ [] ∧ b.2.length ≤ 2000) :
    Calls Try.prog 16 #[v] w fun e w' => e = .returned (.bool true) ∧ Kept (FB v (l.map Prod.snd)) w w' := by
  have hl := h.len
  rcases h.row.2 with ⟨rfl, h0⟩ | ⟨vb, vc, cu0, rfl, hvb, hg0, -⟩
  · go_enter Try.func16, Try.ntmps16
    go_wp2
    go_loopw [3] (fun iv wr => iv = .int .i64 0 ∧ wr = w) (fun _ _ => 0)
    case atStart => exact ⟨rfl, rfl⟩
    case round =>
      obtain ⟨rfl, rfl⟩ := hrel
      go_wp2
      go_loopw [7] (fun iv wr' => iv = .int .i64 0 ∧ wr' = wr) (fun _ _ => 0)
      case atStart => exact ⟨rfl, rfl⟩
      case round =>
        obtain ⟨rfl, rfl⟩ := hrel
        go_wp2
        go_ret
        exact ⟨rfl, Kept.refl _ _⟩
  · obtain ⟨tvs, htv⟩ : ∃ tvs, tvs = l.map Prod.snd := ⟨_, rfl⟩
    rw [← htv]
    rw [hl] at h ⊢
    have M0 : MkAt base w w (.slice (some ⟨vb, 0, none⟩) bs.length vc) tvs bs 0 l bs := ⟨by rw [← hl] at h ⊢; exact h, htv.symm, rfl, fun _ _ _ => rfl, fun j _ hj => by omega, Kept.refl _ _⟩
    have NE : Hid (∀ b ∈ bs, b.2 ≠ [] ∧ b.2.length ≤ 2000) := hne
    clear hne h htv hl hg0 hvb
    go_enter Try.func16, Try.ntmps16
    go_wp2
    go_loopw [3] (fun iv wr => ∃ (i : Nat) (l' : List (Int × Value)) (cur : List Bd), i ≤ bs.length ∧ iv = .int .i64 (i : Int) ∧ MkAt base w wr (.slice (some ⟨vb, 0, none⟩) bs.length vc) tvs bs i l' cur) (fun iv _ => bs.length - (intOf iv).toNat)
    case atStart => exact ⟨0, l, bs, Nat.zero_le _, rfl, M0⟩
    case round =>
      clear M0
      obtain ⟨i, l', cur, hi, rfl, hM⟩ := hrel
      by_cases hlt : i < bs.length
      · obtain ⟨hnei, hlen2⟩ := NE.out bs[i] (List.getElem_mem hlt)
        obtain ⟨wi, hwi⟩ : ∃ wi : World, wi = wr := ⟨_, rfl⟩
        rw [← hwi] at hM ⊢
        clear hwi
        have i1 : (0 : Int) ≤ (i : Int) := by omega
        have i2 : (i : Int) < (bs.length : Int) := by omega
        have hc : i < cur.length := by rw [hM.len]; exact hlt
        have H0 : Half5 cur i 0 := fun _ j _ hj => by omega
        go_wp2
        go_loopw [4] (fun kv wr => ∃ (k : Nat) (cur : List Bd), k ≤ bs[i].2.length ∧ kv = .int .i64 (k : Int) ∧ MkAt base w wr (.slice (some ⟨vb, 0, none⟩) bs.length vc) tvs bs i l' cur ∧ Half5 cur i k) (fun kv _ => bs[i].2.length - (intOf kv).toNat)
        case atStart => exact ⟨0, cur, Nat.zero_le _, rfl, hM, H0⟩
        case round =>
          clear hM H0 hc
          obtain ⟨k, cur, hk, rfl, hM, hH⟩ := hrel
          obtain ⟨r, cap, c1, c2, hll, hf⟩ := hM.cells hlt hnei
          by_cases hkl : k < bs[i].2.length
          · obtain ⟨cur', hM', hH'⟩ := hM.store hH hll hf hkl
            have hcl : (cur[i]'(by rw [hM.len]; exact hlt)).2.length = bs[i].2.length := hM.lens i _ hlt
            obtain ⟨old, f1, f2⟩ : ∃ old, wr.cell? ⟨r, k, none⟩ = some old ∧ wr.frozen? ⟨r, k, none⟩ = false := by
              have q := c2
              unfold Row at q
              rw [hcl] at q
              exact row_put q hkl
            have j1 : (0 : Int) ≤ (k : Int) := by omega
            have j2 : (k : Int) < (bs[i].2.length : Int) := by omega
            clear hM hH c2 hcl
            go_wp2
            exact ⟨⟨k + 1, cur', by omega, by go_num, hM', hH'⟩, by simp [intOf]; omega⟩
          · obtain rfl : k = bs[i].2.length := by omega
            have hc : i < cur.length := by rw [hM.len]; exact hlt
            have hcl : cur[i].2.length = bs[i].2.length := hM.lens i hc hlt
            have G0 : GR base w wr (.slice (some ⟨vb, 0, none⟩) bs.length vc) tvs bs i l' cur r cap 0 r cap cur[i].2 := ⟨hM, by rw [hcl]; exact c2, by omega, .inl ⟨rfl, rfl, hc, [], by simp⟩⟩
            have HHc : Hid (Half5 cur i cur[i].2.length) := by rw [hcl]; exact hH
            clear hM hH c2
            go_wp2
            go_loopw [5, 6] (fun gv ev wr => ∃ (e g c : Nat) (ys : List Int), e ≤ 9 ∧ ev = .int .i64 (e : Int) ∧ gv = .slice (some ⟨g, 0, none⟩) ys.length c ∧ GR base w wr (.slice (some ⟨vb, 0, none⟩) bs.length vc) tvs bs i l' cur r cap e g c ys) (fun _ ev _ => 9 - (intOf ev).toNat)
            case atStart => exact ⟨0, r, cap, cur[i].2, by omega, rfl, by rw [hcl], G0⟩
            case round =>
              clear G0 c1
              obtain ⟨e, g, c, ys, he, rfl, rfl, hG⟩ := hrel
              have hyl := hG.len
              have hbs : base ≤ wr.heap.size := Nat.le_trans hb hG.mka.kept.size
              by_cases hlt9 : e < 9
              · have j1 : (e : Int) < 9 := by omega
                have hrow := hG.row
                by_cases hroom : ys.length + 1 ≤ c
                · go_wp2_with (first | (at_builtin; refine wpList_push_room rfl _ _ 25 rfl Try.underlying25 base ys g _ c rfl rfl hrow (3000 + (i : Int)) rfl hroom ?_; intro w5 hr5 hk5))
                  have hG5 := hG.room hll hf hr5 hk5
                  have hyl5 : (ys ++ [3000 + (i : Int)]).length = ys.length + 1 := by simp
                  go_roundw
                  case rel => first | exact ⟨e + 1, g, c, _, by omega, by go_num, by rw [hyl5], hG5⟩ | ((repeat apply Exists.intro); exact ⟨⟨e + 1, g, c, _, by omega, by go_num, by rw [hyl5], hG5⟩, rfl⟩)
                  case measure => simp [intOf]; omega
                · have hfull : c < ys.length + 1 := by omega
                  go_wp2_with (first | (at_builtin; refine wpList_push_full rfl _ _ 25 rfl Try.underlying25 base ys g _ c rfl rfl hrow (3000 + (i : Int)) rfl hfull hbs (by omega) ?_; intro v5 w5 hr5 hk5; obtain ⟨g5, c5, rfl, hG5⟩ := hG.full hbs hr5 hk5))
                  have hyl5 : (ys ++ [3000 + (i : Int)]).length = ys.length + 1 := by simp
                  go_roundw
                  case rel => first | exact ⟨e + 1, g5, c5, _, by omega, by go_num, by rw [hyl5], hG5⟩ | ((repeat apply Exists.intro); exact ⟨⟨e + 1, g5, c5, _, by omega, by go_num, by rw [hyl5], hG5⟩, rfl⟩)
                  case measure => simp [intOf]; omega
              · have hM2 := hG.mka
                obtain ⟨l2, cur2, hM3⟩ := hM2.name hll hc HHc.out (-(i : Int))
                have hll2 : bs.length = l'.length := by rw [hM2.own.len, hM2.len]
                obtain ⟨f1, f2⟩ : (∃ old, wr.cell? ⟨vb, i * 2, none⟩ = some old) ∧ wr.frozen? ⟨vb, i * 2, none⟩ = false := by
                  have hrow := hM2.own.row
                  rw [← hll2] at hrow
                  exact ⟨⟨_, (hrow.cellAt (i * 2) (by omega)).trans (bcells_at hll).1⟩, hrow.frozenAt (i * 2)⟩
                obtain ⟨old, f1⟩ := f1
                clear hM2 hG
                go_wp2
                exact ⟨⟨i + 1, l2, cur2, by omega, by go_num, hM3⟩, by simp [intOf]; omega⟩
      · obtain rfl : i = bs.length := by omega
        obtain ⟨wi, hwi⟩ : ∃ wi : World, wi = wr := ⟨_, rfl⟩
        rw [← hwi] at hM ⊢
        clear hwi
        have FINK := hM.kept
        have CE : Hid (∀ i (h : i < bs.length), ∃ r cap, wi.cell? ⟨vb, i * 2 + 1, none⟩ = some (.slice (some ⟨r, 0, none⟩) bs[i].2.length cap) ∧ ∀ k, k < bs[i].2.length → wi.cell? ⟨r, k, none⟩ = some (.int .i64 (1000 + (i : Int)))) := fun i hlt => by
          obtain ⟨hnei, _⟩ := NE.out bs[i] (List.getElem_mem hlt)
          obtain ⟨r, cap, c1, c2, _, _⟩ := hM.cells hlt hnei
          refine ⟨r, cap, c1, fun k hk => ?_⟩
          have hc : i < cur.length := by rw [hM.len]; exact hlt
          have hcl : cur[i].2.length = bs[i].2.length := hM.lens i hc hlt
          have hkc : k < cur[i].2.length := by omega
          have q := c2
          unfold Row at q
          rw [hcl] at q
          rw [q.cellAt k (by omega), iv_get hkc, hM.done i hc hlt _ (List.getElem_mem hkc)]
        clear hM
        go_wp2
        go_loop [7] (fun iv => ∃ i : Nat, i ≤ bs.length ∧ iv = .int .i64 (i : Int)) (fun iv => bs.length - (intOf iv).toNat)
        case atStart => exact ⟨0, Nat.zero_le _, rfl⟩
        case round =>
          obtain ⟨i, hi, rfl⟩ := hrel
          by_cases hlt : i < bs.length
          · obtain ⟨r, cap, c1, c2⟩ := CE.out i hlt
            obtain ⟨hnei, hlen2⟩ := NE.out bs[i] (List.getElem_mem hlt)
            have C2 : Hid (∀ k, k < bs[i].2.length → wi.cell? ⟨r, k, none⟩ = some (.int .i64 (1000 + (i : Int)))) := c2
            have i1 : (0 : Int) ≤ (i : Int) := by omega
            have i2 : (i : Int) < (bs.length : Int) := by omega
            clear c2
            go_wp2
            go_loop [8] (fun kv => ∃ k : Nat, k ≤ bs[i].2.length ∧ kv = .int .i64 (k : Int)) (fun kv => bs[i].2.length - (intOf kv).toNat)
            case atStart => exact ⟨0, Nat.zero_le _, rfl⟩
            case round =>
              obtain ⟨k, hk, rfl⟩ := hrel
              by_cases hkl : k < bs[i].2.length
              · have c3 := C2.out k hkl
                have j1 : (0 : Int) ≤ (k : Int) := by omega
                have j2 : (k : Int) < (bs[i].2.length : Int) := by omega
                go_wp2
                exact ⟨⟨k + 1, by omega, by go_num⟩, by simp [intOf]; omega⟩
              · go_wp2
                exact ⟨⟨i + 1, by omega, by go_num⟩, by simp [intOf]; omega⟩
          · go_wp2
            go_ret
            exact ⟨rfl, FINK⟩
end Go.Proofs.Ytbcchplcppogoaa
