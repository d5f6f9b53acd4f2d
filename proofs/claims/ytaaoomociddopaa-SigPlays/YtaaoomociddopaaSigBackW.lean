/- The walk of SigBack. -/
import Derived.Test.YtaaoomociddopaaSigAtW
import Derived.Test.YtaaoomociddopaaOpen
namespace Go.Proofs.Ytaaoomociddopaa
open Go.RowKit
theorem info_string : (Try.prog.info? 9).map (fun i => (i.zero, i.size, i.bytes)) = some (some (.string ⟨#[]⟩), 1, 16) := by kernel_rfl
def namesOf (L : List Sym) : List Value := L.map fun x => .string x.name
/-- Every symbol is found at its own number. -/
def Good (L : List Sym) : Prop := ∀ i (h : i < L.length), findI L L[i].name = some i
theorem good_add {L : List Sym} {x : Sym} (h : Good L) (hz : findI L x.name = none) : Good (L ++ [x]) := by
  intro i hi
  rw [findI_snoc]
  by_cases e : i < L.length
  · rw [List.getElem_append_left e, h i e]
  · have : i = L.length := by simp at hi; omega
    subst this
    simp [hz]
/-- What stands at the head of each round: the signature, and the names that it took. -/
def BackRel (n0 : Nat) (wa : World) (b : Nat) (L : List Sym) (nm : Value) (wr : World) : Prop :=
  ∃ sv mr, SigAt wr b L sv mr ∧ (∀ k, Foot b sv mr k → n0 ≤ k) ∧ wr.ownsRow n0 9 1 nm L.length (namesOf L) ∧ (∀ k, nm.ownBlock = some k → ¬ Foot b sv mr k) ∧ Kept (From n0) wa wr ∧ Good L
theorem back_start (wa : World) : BackRel wa.heap.size wa wa.heap.size [] (.slice none 0 0) (wa.alloc (.cells #[.slice none 0 0, .map none] 59)) :=
  ⟨_, _, sig_new wa, fun k hk => by rcases hk with e | e | e; · omega
                                    · simp [Value.ownBlock] at e
                                    · simp at e, World.ownsRow_nil _ _ _ _, by simp [Value.ownBlock], (Kept.refl _ wa).alloc _, fun i hi => by simp at hi⟩
theorem below_from {w wa wr : World} (hb : Below w.heap.size w wa) (hk : Kept (From wa.heap.size) wa wr) : Below w.heap.size w wr :=
  hb.trans ((hk.below (Nat.le_refl _) (fun k h e => by omega)).mono hb.size)
theorem names_kept {wr w1 : World} {b : Nat} {L : List Sym} {sv nm : Value} {mr : Option Nat} {n0 n : Nat} {xs : List Value} (_hs : SigAt wr b L sv mr) (hr : wr.ownsRow n0 9 1 nm n xs) (hd : ∀ k, nm.ownBlock = some k → ¬ Foot b sv mr k) (hk1 : Kept (Foot b sv mr) wr w1) : w1.ownsRow n0 9 1 nm n xs :=
  hk1.row hr hd
theorem back_same {wa wr w1 : World} {b n0 : Nat} {L : List Sym} {sv sv1 nm : Value} {mr mr1 : Option Nat} (_hs : SigAt wr b L sv mr) (hf : ∀ k, Foot b sv mr k → n0 ≤ k) (hr : wr.ownsRow n0 9 1 nm L.length (namesOf L)) (hd : ∀ k, nm.ownBlock = some k → ¬ Foot b sv mr k) (hkp : Kept (From n0) wa wr) (hg : Good L)
    (hs1 : SigAt w1 b L sv1 mr1) (hk1 : Kept (Foot b sv mr) wr w1) (hf1 : ∀ k, Foot b sv1 mr1 k → Foot b sv mr k ∨ wr.heap.size ≤ k) (hn : n0 ≤ wr.heap.size) : BackRel n0 wa b L nm w1 := by
  refine ⟨sv1, mr1, hs1, fun k hk => (hf1 k hk).elim (hf k) (fun e => by omega), hk1.row hr hd, fun k e hk => ?_, hkp.trans hk1 (fun i _ e => hf i e), hg⟩
  rcases hf1 k hk with h | h
  · exact hd k e h
  · have := (hr.lt k e).2; omega
theorem back_next {wa wr w1 w2 : World} {b n0 gg gcap : Nat} {L : List Sym} {x : Sym} {sv sv1 nm : Value} {mr mr1 : Option Nat} (_hs : SigAt wr b L sv mr) (hf : ∀ k, Foot b sv mr k → n0 ≤ k) (hr : wr.ownsRow n0 9 1 nm L.length (namesOf L)) (hd : ∀ k, nm.ownBlock = some k → ¬ Foot b sv mr k) (hkp : Kept (From n0) wa wr) (hg : Good L) (hz : addErr L x = 0)
    (hs1 : SigAt w1 b (L ++ [x]) sv1 mr1) (hk1 : Kept (Foot b sv mr) wr w1) (hf1 : ∀ k, Foot b sv1 mr1 k → Foot b sv mr k ∨ wr.heap.size ≤ k)
    (hown : w2.ownsRow n0 9 1 (.slice (some ⟨gg, 0, none⟩) (L.length + 1) gcap) (L.length + 1) (namesOf L ++ [.string x.name])) (hgrow : (w1.alloc (.cells #[.string x.name] 9)).grownBy w2 nm.ownBlock) (hat : nm.ownBlock = some gg ∨ gg = w1.heap.size + 1) (hn : n0 ≤ wr.heap.size) :
    BackRel n0 wa b (L ++ [x]) (.slice (some ⟨gg, 0, none⟩) (L.length + 1) gcap) w2 := by
  have hk2 : Kept (fun k => nm.ownBlock = some k) w1 w2 := Kept.grown (Kept.alloc (Kept.refl _ w1) _) hgrow (fun _ e _ => e)
  have hd1 : ∀ k, nm.ownBlock = some k → ¬ Foot b sv1 mr1 k := fun k e hk => by
    rcases hf1 k hk with h | h
    · exact hd k e h
    · have := (hr.lt k e).2; omega
  refine ⟨sv1, mr1, hs1.kept hk2 (fun k hk e => hd1 k e hk), fun k hk => (hf1 k hk).elim (hf k) (fun e => by omega), by simpa [namesOf] using hown, fun k e hk => ?_, ?_, good_add hg (add_zero hz).1⟩
  · simp [Value.ownBlock] at e
    subst e
    rcases hat with e | e
    · exact hd1 _ e hk
    · have h3 := sig_foot_lt hs1 _ hk
      omega
  · exact (hkp.trans hk1 (fun i _ e => hf i e)).trans hk2 (fun i _ e => (hr.lt i e).1)
set_option maxHeartbeats 2000000 in
theorem back_walk (ao : Option Addr) (len cap : Nat) (xs : List Sym) (w : World) (hx : SymsAt w ao len xs) (hm : len ≤ maxLen) :
    Calls Try.prog 6 #[.slice ao len cap] w fun e w' => e = .returned (.bool true) ∧ Below w.heap.size w w' := by
  unfold maxLen at hm
  go_enter Try.func6, Try.ntmps6
  go_wp2_with (first | (go_at_call 8; refine (awake_any _).mono ?_; rintro e wa ⟨rfl, hb⟩) | (go_at_call 13; refine (new_any _).mono ?_; rintro e w' ⟨rfl, rfl⟩))
  go_loopw [5, 6, 7, 8] (fun nm i _ _ wr => ∃ (k : Nat) (L : List Sym), k ≤ len ∧ i = .int .i64 k ∧ BackRel wa.heap.size wa wa.heap.size L nm wr) (fun _ i _ _ _ => len - (intOf i).toNat)
  case atStart =>
    exact ⟨0, [], Nat.zero_le _, rfl, back_start wa⟩
  case round =>
    obtain ⟨k, L, hk, rfl, sv, mr, hs, hf, hr, hd, hkp, hg⟩ := hrel
    obtain ⟨nao, ncap, rfl⟩ := row_shape hr
    have hlen := hs.len
    have hbw : Below w.heap.size w wr := below_from hb hkp
    by_cases hlt : k < len
    · obtain ⟨xl, xc, xw⟩ := hx.kept hbw
      obtain ⟨xb, off, rfl, hxb, hxc⟩ := xc.resolve_left (by omega)
      have hkx : k < xs.length := by omega
      obtain ⟨x0, x1, x2⟩ := hxc k hkx
      have xsz := (xw xs[k] (List.getElem_mem hkx)).1
      have i1 : (0 : Int) ≤ (k : Int) := by omega
      have i2 : (k : Int) < (len : Int) := by omega
      by_cases hz : addErr L xs[k] = 0
      · go_wp2_with fail
        refine (add_ok hs xs[k] xsz hz).mono ?_
        rintro e w1 ⟨rfl, sv1, mr1, hs1, hk1, hf1⟩
        have hn1 := names_kept hs hr hd hk1
        have hkp1 : Kept (From wa.heap.size) wa w1 := hkp.trans hk1 (fun i _ e => hf i e)
        have hbw1 : Below w.heap.size w w1 := below_from hb hkp1
        have y0 : w1.cell? ⟨xb, off + k * 3, none⟩ = some (.string xs[k].name) := by
          obtain ⟨_, yc, _⟩ := hx.kept hbw1
          obtain ⟨_, _, e, _, hyc⟩ := yc.resolve_left (by omega)
          simp only [Option.some.injEq, Addr.mk.injEq, and_true] at e
          rw [e.1, e.2]
          exact (hyc k hkx).1
        obtain ⟨i0, hi0, hz0, hz1, hz2⟩ := info_parts info_string
        have hL1 : L.length < 64 := (add_zero hz).2.2
        have b1 : L.length + 1 ≤ maxLen := by unfold maxLen; omega
        have b2 : (L.length + 1) * 16 ≤ 140737488355328 := by omega
        have b3 : wa.heap.size ≤ (w1.alloc (.cells #[.string xs[k].name] 9)).heap.size := by have := hkp1.size; simp; omega
        go_wp2_with (first | (at_builtin; refine wpList_append_lies _ rfl _ _ 41 rfl wa.heap.size 9 i0 _ 1 16 Try.underlying41 hi0 hz0 hz1 hz2 rfl (by omega) (.slice nao L.length ncap) L.length (namesOf L) rfl (hn1.alloc _) ⟨w1.heap.size, 0, none⟩ 1 1 [.string xs[k].name] rfl rfl (cell_one_new _ _ _) (by simp [Value.oneCell']) (by omega) b1 b2 b3 (w1.heap.size + 1) (by simp) ?_; intro gg gcap w2 hown hgrow hat hglt))
        refine ⟨⟨k + 1, L ++ [xs[k]], by omega, by go_num, ?_⟩, by simp [intOf]; omega⟩
        exact back_next hs hf hr hd hkp hg hz hs1 hk1 hf1 hown hgrow hat hkp.size
      · have hz' : (addErr L xs[k] != 0) = true := by simpa using hz
        go_wp2_with (first | (go_at_call 18; refine (add_no hs xs[k] xsz hz).mono ?_; rintro e w1 ⟨rfl, sv1, mr1, hs1, hk1, hf1⟩) | (go_at_call 19; refine (len_any hs1).mono ?_; rintro e w' ⟨rfl, rfl⟩))
        refine ⟨⟨k + 1, L, by omega, by go_num, ?_⟩, by simp [intOf]; omega⟩
        exact back_same hs hf hr hd hkp hg hs1 hk1 hf1 hkp.size
    · rename World => wo
      go_wp2
      go_loopw [9, 10, 11, 12, 13] (fun i _ _ _ _ w2 => ∃ j : Nat, j ≤ L.length ∧ i = .int .i64 j ∧ Kept (fun _ => False) wo w2) (fun i _ _ _ _ _ => L.length - (intOf i).toNat)
      case atStart => exact ⟨0, Nat.zero_le _, rfl, Kept.refl _ _⟩
      case round =>
        obtain ⟨j, hj, rfl, hkw⟩ := hrel
        rename World => w2
        have hs2 : SigAt w2 wa.heap.size L sv mr := hs.kept hkw (fun _ _ f => f)
        by_cases hjl : j < L.length
        · have i1 : (0 : Int) ≤ (j : Int) := by omega
          have i2 : (j : Int) < (L.length : Int) := by omega
          go_wp2_with fail
          refine (at_yes hs2 j hjl).mono ?_
          rintro e w3 ⟨rfl, hk3⟩
          obtain ⟨g, gc, hv, _, hglt⟩ := hr.form (by omega)
          simp only [Value.slice.injEq, true_and] at hv
          obtain ⟨rfl, rfl⟩ := hv
          have hk4 : Kept (fun _ => False) wo (w3.alloc (.cells #[.string L[j].name, .int .i64 L[j].ar, .bool L[j].df] 35)) := (hkw.trans hk3 (fun _ _ f => f)).alloc _
          have hs4 := hs.kept hk4 (fun _ _ f => f)
          have hr4 := hk4.row hr (fun _ _ f => f)
          have n4 : (w3.alloc (.cells #[.string L[j].name, .int .i64 L[j].ar, .bool L[j].df] 35)).cell? ⟨g, j, none⟩ = some (.string L[j].name) := by
            rw [hr4.cellAt j (by omega)]; simp [namesOf, hjl]
          have hnm : nameB L[j].name = true := hs.names _ (List.getElem_mem hjl)
          have hsz : L[j].name.size ≤ maxLen := by have := nameB_size hnm; unfold maxLen; omega
          have hfj := find_any hs4 L[j].name hsz
          rw [hg j hjl] at hfj
          go_wp2_with (first | (go_at_call 21; refine hfj.mono ?_; rintro e w' ⟨rfl, rfl⟩))
          go_quiet (fail)
          go_wp2
          refine ⟨⟨j + 1, by omega, by go_num, hk4.drewN _⟩, by simp [intOf]; omega⟩
        · have e1 : ((L.length : Int) == (L.length : Int)) = true := by simp
          have e2 : (L.length : Int) ≤ 64 := by omega
          go_wp2_with fail
          refine (at_no hs2 (L.length : Int) (.inr (Int.le_refl _))).mono ?_
          rintro e w3 ⟨rfl, hk3⟩
          have hk4 : Kept (fun _ => False) wo (w3.alloc (.cells #[.string ⟨#[]⟩, .int .i64 0, .bool false] 35)) := (hkw.trans hk3 (fun _ _ f => f)).alloc _
          have hs4 := hs.kept hk4 (fun _ _ f => f)
          go_wp2_with (first | (go_at_call 19; refine (len_any hs4).mono ?_; rintro e w' ⟨rfl, rfl⟩))
          go_ret
          exact ⟨by simp, below_from hb (hkp.trans hk4 (fun _ _ f => f.elim))⟩
end Go.Proofs.Ytaaoomociddopaa
