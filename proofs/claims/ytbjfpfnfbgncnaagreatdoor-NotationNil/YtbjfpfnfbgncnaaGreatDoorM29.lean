import Derived.Test.YtbjfpfnfbgncnaaGreatDoorM28
import Derived.Test.YtbjfpfnfbgncnaaGreatDoorM18
import Derived.Test.YtbjfpfnfbgncnaaGreatDoorM17
/- The walk of the term of words whose names are all right. -/
namespace Go.Proofs.YtbjfpfnfbgncnaaGreatDoor
open Go.RowKit
set_option linter.unusedVariables false
set_option maxRecDepth 100000
def preN (xs : List Int) (R : Except Nat (List Int × List (List UInt8))) : Except Nat (List Int × List (List UInt8)) := R.map (fun v => (xs ++ v.1, v.2))
theorem preN_map (xs : List Int) (y : Int) (R : Except Nat (List Int × List (List UInt8))) : preN xs (R.map (fun v => (y :: v.1, v.2))) = preN (xs ++ [y]) R := by cases R <;> simp [preN, Except.map]
def intZ (l : List Int) : List Value := l.map (fun n => Value.int .i64 n)
/-- What the loop holds. -/
structure LiAt (w3 : World) (g bm : Nat) (L : List Sym) (l : List Item) (R : Except Nat (List Int × List (List UInt8))) (k : Nat) (wr : World) (xs : List Int) (kn : List (List UInt8)) : Prop where
  fill : FilledC wr g 3 l.length k (intZ xs)
  vars : VarsAt wr bm kn
  few : kn.length ≤ 99
  kept : Kept (fun j => j = g ∨ j = bm) w3 wr
  eq : R = preN xs (numF L kn (l.drop k))
theorem LiAt.step {w3 wr w2 : World} {g bm : Nat} {L : List Sym} {l : List Item} {R : Except Nat (List Int × List (List UInt8))} {k : Nat} {xs : List Int} {kn kn2 : List (List UInt8)} {y : Int} (I : LiAt w3 g bm L l R k wr xs kn) (hg : g ≠ bm) (hk : Kept (fun i => i = bm) wr w2) (hv : VarsAt w2 bm kn2) (hf : kn2.length ≤ 99) (hlt : k < l.length) (e : R = preN (xs ++ [y]) (numF L kn2 (l.drop (k + 1)))) :
    LiAt w3 g bm L l R (k + 1) (w2.setCell ⟨g, k, none⟩ (.int .i64 y)) (xs ++ [y]) kn2 := by
  have hs : Kept (fun i => i = g) w2 (w2.setCell ⟨g, k, none⟩ (.int .i64 y)) := Kept.setCell (p := ⟨g, k, none⟩) (Kept.refl (fun i => i = g) w2) (fun _ => rfl) _
  refine ⟨?_, hv.kept hs (fun e => hg e.symm), hf, (I.kept.trans hk (fun _ _ e => .inr e)).trans hs (fun _ _ e => .inl e), e⟩
  have := (I.fill.kept hk hg).put hlt (.int .i64 y)
  simpa [intZ] using this
theorem LiAt.same {w3 wr w2 : World} {g bm : Nat} {L : List Sym} {l : List Item} {R : Except Nat (List Int × List (List UInt8))} {k : Nat} {xs : List Int} {kn : List (List UInt8)} (I : LiAt w3 g bm L l R k wr xs kn) (hk : Same0 wr w2) : LiAt w3 g bm L l R k w2 xs kn :=
  ⟨I.fill.kept hk (fun f => f), I.vars.kept hk (fun f => f), I.few, I.kept.trans hk (fun _ _ f => f.elim), I.eq⟩
set_option maxHeartbeats 4000000 in
theorem listed_any {w : World} {base nb b bm : Nat} {L : List Sym} (hS : Sg nb w b L) {ao : Option Addr} {cap : Nat} {l : List Item} {kn : List (List UInt8)} (h : WRow base w (.slice ao l.length cap) l) (hv : VarsAt w bm kn) (hnb : nb ≤ bm) (hab : ∀ j, (Value.slice ao l.length cap).ownBlock = some j → j ≠ bm) (hkn : kn.length ≤ 99)
    (ht : ∀ x ∈ l, x.t.text.length ≤ 20000 ∧ (x.t.kind = 2 ∨ (x.t.kind = 1 ∧ (findI L (txt x.t.text)).isSome = true))) (hl : l.length ≤ 50000) :
    Calls Tryz.prog 27 #[.pointer (some ⟨b, 0, none⟩), .map (some bm), .slice ao l.length cap] w fun e w' => match numF L kn l with
      | .error p => GaveUp w.heap.size w' e 46 p ∧ Kept (fun j => j = bm) w w'
      | .ok (xs, kn') => ∃ g, e = .returned (.slice (some ⟨g, 0, none⟩) l.length l.length) ∧ w'.ownsRow w.heap.size 3 1 (.slice (some ⟨g, 0, none⟩) l.length l.length) l.length (intZ xs) ∧ VarsAt w' bm kn' ∧ kn'.length ≤ 99 ∧ xs.length = l.length ∧ Kept (fun j => j = bm) w w' := by
  obtain ⟨i, hi, hz0, hz1, hz2⟩ := info_of info_int
  obtain ⟨R, hR⟩ : ∃ R, numF L kn l = R := ⟨_, rfl⟩
  rw [hR]
  have HE : Hid (R = numF L kn l) := hR.symm
  have HS : Hid (Sg nb w b L) := hS
  have HR : Hid (WRow base w (.slice ao l.length cap) l) := h
  have HV : Hid (VarsAt w bm kn) := hv
  have HT : Hid (∀ x ∈ l, x.t.text.length ≤ 20000 ∧ (x.t.kind = 2 ∨ (x.t.kind = 1 ∧ (findI L (txt x.t.text)).isSome = true))) := ht
  have HA : Hid (∀ j, (Value.slice ao l.length cap).ownBlock = some j → j ≠ bm) := hab
  have hbl := hv.lt
  clear hS h hv ht hR hab
  go_enter Tryz.func27, Tryz.ntmps27
  go_wp2_with (first | (at_make; refine wpList_make_full _ rfl _ _ 24 rfl w.heap.size 3 i _ 1 Tryz.underlying24 hi hz0 hz1 _ _ _ _ l.length rfl rfl rfl rfl (by rw [hz2]; omega) (by unfold maxLen; omega) (Nat.le_refl _) ?_; intro w3 hown hgrow))
  have HK : Hid (Same0 w w3) := Kept.grown (Kept.refl _ w) hgrow (fun _ e _ => by cases e)
  have HF : Hid (FilledC w3 w.heap.size 3 l.length 0 []) := by have := FilledC.start hown; rwa [Nat.mul_one] at this
  clear hown hgrow
  go_loopw [15] (fun x wr => ∃ k : Nat, x = .int .i64 (k : Int) ∧ k ≤ l.length ∧ ∃ xs kn', LiAt w3 w.heap.size bm L l R k wr xs kn') (fun x _ => l.length - (intOf x).toNat)
  case atStart => exact ⟨0, rfl, Nat.zero_le _, [], kn, HF.out, HV.out.kept HK.out (fun f => f), hkn, Kept.refl _ _, by rw [HE.out]; simp [preN]; cases numF L kn l <;> rfl⟩
  case round =>
    obtain ⟨k, rfl, hk, xs, kn', I⟩ := hrel
    by_cases hlt : k < l.length
    · have hown : ∀ j, (Value.slice ao l.length cap).ownBlock = some j → ¬ (j = w.heap.size ∨ j = bm) := fun j e => by have h1 := (HR.out.own e).2; have h2 := HA.out j e; omega
      have hr := (HR.out.same HK.out).kept I.kept hown
      obtain ⟨g, rfl, _, hgl, q0, q1, q2, q3⟩ := hr.get hlt
      have HD : Hid (l.drop k = l[k] :: l.drop (k + 1)) := List.drop_eq_getElem_cons hlt
      obtain ⟨htx, hkd⟩ := HT.out l[k] (List.getElem_mem hlt)
      obtain ⟨x, hx⟩ : ∃ x, x = l[k] := ⟨_, rfl⟩
      rw [← hx] at q0 q1 q2 q3 htx HD hkd
      have d1 : (k : Int) < (l.length : Int) := by omega
      have kA : Same0 wr (wr.alloc (.cells #[.int .i64 (x.t.kind : Int), .int .i64 (x.t.at' : Int), .string (txt x.t.text), .int .i64 (x.args : Int)] 116)) := Kept.alloc (Kept.refl _ wr) _
      have HI : Hid (LiAt w3 w.heap.size bm L l R k wr xs kn') := I
      have hgs : w.heap.size < wr.heap.size := by obtain ⟨cur, h1, _⟩ := I.fill; exact lt_of_at h1
      have HRE : Hid (∀ y R', numF L kn' (x :: l.drop (k + 1)) = R'.map (fun v => (y :: v.1, v.2)) → R = preN (xs ++ [y]) R') := fun y R' e => by rw [I.eq, HD.out, e, preN_map]
      clear hr hx hown
      rcases hkd with h2 | ⟨h1, hf⟩
      · have hn2 : ((x.t.kind : Int) == 2) = true := by rw [h2]; rfl
        have hk1 : ¬ x.t.kind = 1 := by omega
        by_cases hm : x.t.text ∈ kn'
        · have cN := number_have (I.vars.kept kA (fun f => f)) x htx hm I.few
          have e1 := HRE.out (-((kn'.idxOf x.t.text : Int) + 1)) (numF L kn' (l.drop (k + 1))) (by rw [numF, if_neg hk1, if_pos hm])
          have HE1 : Hid (R = preN (xs ++ [-((kn'.idxOf x.t.text : Int) + 1)]) (numF L kn' (l.drop (k + 1)))) := e1
          have hil : (kn'.idxOf x.t.text : Int) < 100 := by have := List.idxOf_lt_length_of_mem hm; have := I.few; omega
          obtain ⟨ix, hix⟩ : ∃ ix, ix = kn'.idxOf x.t.text := ⟨_, rfl⟩
          rw [← hix] at cN HE1 hil
          unfold aggW at cN
          clear e1 hm hix h2 hk1 I
          go_wp2_with (first | (go_at_call 58; refine cN.mono ?_; rintro e w2 ⟨rfl, hk2⟩; obtain ⟨⟨u0, t0⟩, z0⟩ := (HI.out.fill.kept (kA.trans' hk2) (fun f => f)).cell (j := k) (by omega)))
          have K2 : Kept (fun i => i = bm) wr w2 := Kept.mono (kA.trans' hk2) (fun _ _ f => f.elim)
          exact ⟨⟨k + 1, by go_num, by omega, _, _, HI.out.step (by omega) K2 (HI.out.vars.kept (kA.trans' hk2) (fun f => f)) HI.out.few hlt HE1.out⟩, by simp [intOf]; omega⟩
        · by_cases h99 : kn'.length = 99
          · have cN := number_full (I.vars.kept kA (fun f => f)) x htx hm h99
            have e1 : R = .error x.t.at' := by rw [I.eq, HD.out, numF, if_neg hk1, if_neg hm, if_pos h99]; rfl
            unfold aggW at cN
            clear HE HRE
            have KK : Hid (Kept (fun j => j = w.heap.size ∨ j = bm) w3 wr) := I.kept
            clear HI I
            subst e1
            clear hm h2 hk1
            go_wp2_with (first | (go_at_call 58; refine cN.mono ?_; rintro e w2 ⟨⟨b2, rfl, y1, y2⟩, hk2⟩))
            exact ⟨rfl, ⟨b2, rfl, by simp only [World.size_alloc] at y1; omega, y2⟩, ((Kept.mono HK.out (fun _ _ f => f.elim)).trans (S := fun j => j = bm) KK.out (fun j hj e => e.elim (fun h => by omega) id)).trans (kA.trans' hk2) (fun _ _ f => f.elim)⟩
          · have cN := number_new (I.vars.kept kA (fun f => f)) x htx hm (by have := I.few; omega)
            have HE1 : Hid (R = preN (xs ++ [-((kn'.length : Int) + 1)]) (numF L (kn' ++ [x.t.text]) (l.drop (k + 1)))) := HRE.out (-((kn'.length : Int) + 1)) (numF L (kn' ++ [x.t.text]) (l.drop (k + 1))) (by rw [numF, if_neg hk1, if_neg hm, if_neg h99])
            have hfw : kn'.length ≤ 99 := I.few
            have hfw2 : (kn' ++ [x.t.text]).length ≤ 99 := by simp; omega
            have HF9 : Hid ((kn' ++ [x.t.text]).length ≤ 99) := hfw2
            unfold aggW at cN
            clear hm h2 hk1 I h99 hfw2
            go_wp2_with (first | (go_at_call 58; refine cN.mono ?_; rintro e w2 ⟨rfl, hv2, hk2⟩; obtain ⟨⟨u0, t0⟩, z0⟩ := (HI.out.fill.kept ((Kept.mono kA (fun _ _ f => f.elim)).trans hk2 (S := fun i => i = bm) (fun _ _ e => e)) (by omega)).cell (j := k) (by omega)))
            have K2 : Kept (fun i => i = bm) wr w2 := (Kept.mono kA (fun _ _ f => f.elim)).trans hk2 (fun _ _ e => e)
            exact ⟨⟨k + 1, by go_num, by omega, _, _, HI.out.step (by omega) K2 hv2 HF9.out hlt HE1.out⟩, by simp [intOf]; omega⟩
      · have hn2 : ((x.t.kind : Int) == 2) = false := by simp; omega
        have hSr : Sg nb wr b L := (HS.out.same HK.out).kept I.kept (fun j hj e => by have := HI.out.vars.lt; omega)
        obtain ⟨⟨sv, mr, hA, _⟩, hars⟩ := hSr.same kA
        have cF := find_any hA (txt x.t.text) (by rw [txt_size]; unfold maxLen; omega)
        obtain ⟨n, hfn⟩ := Option.isSome_iff_exists.1 hf
        rw [hfn] at cF
        simp only [Option.getD_some, Option.isSome_some, if_true] at cF
        have HE1 : Hid (R = preN (xs ++ [(n : Int)]) (numF L kn' (l.drop (k + 1)))) := HRE.out (n : Int) (numF L kn' (l.drop (k + 1))) (by rw [numF, if_pos h1, numOf, show bsOf x.t.text = txt x.t.text from rfl, hfn])
        obtain ⟨⟨u0, t0⟩, z0⟩ := (HI.out.fill.kept kA (fun f => f)).cell (j := k) (by omega)
        clear hA hf hfn h1 I hSr
        go_wp2_with (first | (go_at_call 56; refine cF.mono ?_; rintro e w2 ⟨rfl, rfl⟩))
        exact ⟨⟨k + 1, by go_num, by omega, _, _, (HI.out.step (by omega) (Kept.refl _ wr) HI.out.vars HI.out.few hlt HE1.out).same (Kept.alloc (Kept.refl _ _) _)⟩, by simp [intOf]; omega⟩
    · obtain rfl : k = l.length := by omega
      have d1 : ¬ ((l.length : Int) < (l.length : Int)) := by omega
      have e1 : R = .ok (xs, kn') := by rw [I.eq, List.drop_length]; simp [numF, preN, Except.map]
      have hD : Hid (wr.ownsRow w.heap.size 3 1 (.slice (some ⟨w.heap.size, 0, none⟩) l.length l.length) l.length (intZ xs)) := by
        have := I.fill
        have h2 : FilledC wr w.heap.size 3 (l.length * 1) (l.length * 1) (intZ xs) := by rwa [Nat.mul_one]
        exact h2.done (Nat.le_refl _) (by unfold maxLen; omega)
      have HI : Hid (VarsAt wr bm kn' ∧ kn'.length ≤ 99 ∧ Kept (fun j => j = w.heap.size ∨ j = bm) w3 wr) := ⟨I.vars, I.few, I.kept⟩
      clear HE I
      subst e1
      go_wp2_with fail
      go_ret
      refine ⟨_, rfl, hD.out, HI.out.1, HI.out.2.1, ?_, (Kept.mono HK.out (fun _ _ f => f.elim)).trans HI.out.2.2 (fun j hj e => e.elim (fun h => by omega) id)⟩
      have := hD.out.1
      simpa [intZ] using this
end Go.Proofs.YtbjfpfnfbgncnaaGreatDoor
/- The walk of what reads one argument of a term. -/
namespace Go.Proofs.YtbjfpfnfbgncnaaGreatDoor
open Go.RowKit
set_option linter.unusedVariables false
set_option maxRecDepth 100000
theorem termF_pos {f : Nat} {ts r : List Tok} {is : List Item} (h : termF f ts = .ok (is, r)) : is ≠ [] := by
  cases f with
  | zero => simp [termF] at h
  | succ f =>
    cases ts with
    | nil => simp [termF] at h
    | cons t q =>
      simp only [termF] at h
      repeat' split at h
      all_goals first | (cases h; simp; done) | (cases h; done) | skip
theorem bump_length (n : Nat) (l : List Item) : (bumpA n l).length = l.length := by simp [bumpA]
theorem bump_at {n : Nat} {l : List Item} (h : n < l.length) : (bumpA n l)[n]'(by rw [bump_length]; exact h) = ⟨l[n].t, l[n].args + 1⟩ := by simp [bumpA]
theorem bump_cells {n : Nat} : ∀ {l : List Item} (h : n < l.length), wordCells (bumpA n l) = (wordCells l).set (n * 4 + 3) (.int .i64 ((l[n].args : Int) + 1)) := by
  induction n with
  | zero =>
    intro l h
    cases l with
    | nil => simp at h
    | cons x r => simp [bumpA, wordCells, wordV]
  | succ n ih =>
    intro l h
    cases l with
    | nil => simp at h
    | cons x r =>
      have hr : n < r.length := by simpa using h
      have e1 : wordCells (x :: r) = .int .i64 (x.t.kind : Int) :: .int .i64 (x.t.at' : Int) :: .string (txt x.t.text) :: .int .i64 (x.args : Int) :: wordCells r := by simp [wordCells, wordV]
      have e2 : wordCells (bumpA (n + 1) (x :: r)) = .int .i64 (x.t.kind : Int) :: .int .i64 (x.t.at' : Int) :: .string (txt x.t.text) :: .int .i64 (x.args : Int) :: wordCells (bumpA n r) := by simp [bumpA, wordCells, wordV]
      rw [e1, e2, ih hr, show (n + 1) * 4 + 3 = (n * 4 + 3) + 1 + 1 + 1 + 1 by omega]
      simp
theorem WRow.bump {base : Nat} {w : World} {g cap n : Nat} {l : List Item} (h : WRow base w (.slice (some ⟨g, 0, none⟩) l.length cap) l) (hn : n < l.length) : WRow base (w.setCell ⟨g, n * 4 + 3, none⟩ (.int .i64 ((l[n].args : Int) + 1))) (.slice (some ⟨g, 0, none⟩) l.length cap) (bumpA n l) := by
  refine ⟨by rw [wordCells_length, bump_length], ?_⟩
  rcases h.2 with ⟨e, _⟩ | ⟨g', cap', cur, e, hb, hg, h1, h2, h3, h4⟩
  · cases e
  · cases e
    refine .inr ⟨g, cap, cur.setIfInBounds (n * 4 + 3) (.int .i64 ((l[n].args : Int) + 1)), by rw [bump_length], hb, setAt hg _ _, by rw [bump_length]; exact h1, h2, by simp [h3], ?_⟩
    rw [bump_cells hn, ← h4, bump_length]
    simp [List.take_set]
theorem WRow.frozen {base : Nat} {w : World} {g n cap : Nat} {l : List Item} (h : WRow base w (.slice (some ⟨g, 0, none⟩) n cap) l) (hl : 0 < l.length) (o : Nat) : w.frozen? ⟨g, o, none⟩ = false := by
  rcases h.2 with ⟨e, _⟩ | ⟨g', cap', cur, e, hb, hg, h1, h2, h3, h4⟩
  · cases e
  · cases e; exact frozenAt hg o
/-- What an argument's reading keeps. -/
def ArgA (w : World) (rb tb base : Nat) (lv : Value) (n : Nat) (is : List Item) (wc : World) : Prop := (∃ h : n < is.length, is[n].args ≤ is.length) ∧ ∃ lv1, Mid w rb tb base lv n is wc lv1
set_option maxHeartbeats 2000000 in
theorem arg_reads {f : Nat} (ih : TermGood f) {w : World} {rb tb base n : Nat} {lv : Value} (hb : base ≤ w.heap.size) {B : Nat} (hB : B ≤ 50000) :
    Reads List.length f B w.heap.size rb tb 55 #[.pointer (some ⟨w.heap.size, 0, none⟩), .pointer (some ⟨w.heap.size + 1, 0, none⟩), .pointer (some ⟨w.heap.size + 1 + 1, 0, none⟩)] (oneT f n) (ArgA w rb tb base lv n) (fun w' => Kept (fun i => i = rb ∨ lv.ownBlock = some i) w w') := by
  rintro ts a wc hE hF hz hR ⟨⟨hn, harg⟩, lv1, M⟩
  have hown1 : ∀ k, lv1.ownBlock = some k → k ≠ rb ∧ k ≠ tb := fun k e => by
    rcases M.own k e with e1 | e1
    · exact ⟨(M.old k e1).1, (M.old k e1).2.1⟩
    · have := M.lt; omega
  have c := ih rb tb base ts lv1 a wc hF hE hR M.row (by have := M.kept.size; omega) (by omega) hown1
  obtain ⟨ao1, cap1, rfl⟩ : ∃ ao cap, lv1 = .slice ao a.length cap := row_shape M.row
  have s0 := cellAt M.laid.r0 0
  have s1 := cellAt M.laid.l0 0
  simp only [List.getElem?_toArray, List.getElem?_cons_zero] at s0 s1
  have HM : Hid (Mid w rb tb base lv n a wc (.slice ao1 a.length cap1)) := M
  have hK : Hid (∀ {w' : World}, Kept (fun i => i = rb ∨ (Value.slice ao1 a.length cap1).ownBlock = some i) wc w' → Kept (fun i => i = rb ∨ lv.ownBlock = some i) w w') := fun k => M.kept.trans k (fun i hi e => e.imp id (fun e => by
    rcases M.own i e with e1 | e1
    · exact e1
    · omega))
  unfold oneT
  cases hT : termF f ts with
  | error p =>
    rw [hT] at c
    clear hT M
    go_enter Tryz.func55, Tryz.ntmps55
    go_wp2_with (first | (go_at_call 23; refine c.mono ?_; rintro e w1 ⟨⟨b, rfl, k1, k2⟩, k3⟩))
    exact ⟨rfl, ⟨b, rfl, by have := HM.out.kept.size; omega, k2⟩, hK.out k3⟩
  | ok v =>
    obtain ⟨is, r⟩ := v
    have hpos : 0 < is.length := List.length_pos_iff.2 (termF_pos hT)
    rw [hT] at c
    clear hT
    obtain ⟨A2, hA2⟩ : ∃ A2, A2 = a ++ is := ⟨_, rfl⟩
    have hn2 : n < A2.length := by rw [hA2]; simp; omega
    have hg2 : A2[n].args = a[n].args := by subst hA2; rw [List.getElem_append_left hn]
    have hl2 : A2.length = a.length + is.length := by rw [hA2]; simp
    obtain ⟨m, hm⟩ : ∃ m, m = A2[n].args := ⟨_, rfl⟩
    have c' : Calls Tryz.prog 23 #[.pointer (some ⟨rb, 0, none⟩), .slice ao1 a.length cap1] wc fun e w1 => ∃ g2 cap2, e = .returned (.slice (some ⟨g2, 0, none⟩) A2.length cap2) ∧ w1.frozen? ⟨w.heap.size + 1, 0, none⟩ = false ∧ w1.cell? ⟨w.heap.size + 1 + 1, 0, none⟩ = some (.int .i64 (n : Int)) ∧ w1.cell? ⟨w.heap.size + 1, 0, none⟩ = some (.slice ao1 a.length cap1) ∧ w1.cell? ⟨g2, n * 4 + 3, none⟩ = some (.int .i64 (m : Int)) ∧ w1.frozen? ⟨g2, n * 4 + 3, none⟩ = false ∧ g2 ≠ w.heap.size + 1 ∧ g2 ≠ w.heap.size + 1 + 1 ∧ Hid (RdAt w1 rb tb r ∧ EndsT r ∧ r.length < ts.length ∧ is.length + r.length ≤ ts.length ∧ Mid w rb tb base lv n (bumpA n A2) ((w1.setCell ⟨w.heap.size + 1, 0, none⟩ (.slice (some ⟨g2, 0, none⟩) A2.length cap2)).setCell ⟨g2, n * 4 + 3, none⟩ (.int .i64 ((m : Int) + 1))) (.slice (some ⟨g2, 0, none⟩) A2.length cap2) ∧ RdAt ((w1.setCell ⟨w.heap.size + 1, 0, none⟩ (.slice (some ⟨g2, 0, none⟩) A2.length cap2)).setCell ⟨g2, n * 4 + 3, none⟩ (.int .i64 ((m : Int) + 1))) rb tb r) := by
      refine c.mono ?_
      rintro e w1 ⟨lv2, rfl, k1, k2, k3, k4, k5, k6, k7⟩
      rw [← hA2] at k2
      obtain ⟨ao2, cap2, rfl⟩ : ∃ ao cap, lv2 = .slice ao A2.length cap := row_shape k2
      obtain ⟨g2, rfl, hg2b, hg2l, _, _, _, hcell⟩ := k2.get hn2
      have L1 : Laid3 w w1 rb (.slice ao1 a.length cap1) n := M.laid.kept k4 (fun i h1 h2 e => by
        rcases e with e | e
        · have := M.lt; omega
        · rcases M.own i e with e1 | e1
          · have := (M.old i e1).2.2; omega
          · omega)
      have hgo : lv.ownBlock = some g2 ∨ w.heap.size + 3 ≤ g2 := by
        rcases k3 g2 rfl with e1 | e1
        · exact M.own g2 e1
        · have := lt_of_at M.laid.n0; omega
      have hgn : g2 ≠ w.heap.size + 1 ∧ g2 ≠ w.heap.size + 1 + 1 ∧ g2 ≠ w.heap.size ∧ g2 ≠ rb ∧ g2 ≠ tb := by
        have hlt := M.lt
        rcases hgo with e1 | e1
        · have := M.old g2 e1; omega
        · omega
      have s2 := cellAt L1.n0 0
      have s3 := cellAt L1.l0 0
      simp only [List.getElem?_toArray, List.getElem?_cons_zero] at s2 s3
      refine ⟨g2, cap2, rfl, frozenAt L1.l0 0, s2, s3, by rw [hm]; exact hcell, k2.frozen (by omega) _, hgn.1, hgn.2.1, ?_⟩
      have hs1 : Kept (fun i => i = w.heap.size + 1) w1 (w1.setCell ⟨w.heap.size + 1, 0, none⟩ (.slice (some ⟨g2, 0, none⟩) A2.length cap2)) := Kept.setCell (p := ⟨w.heap.size + 1, 0, none⟩) (Kept.refl (fun i => i = w.heap.size + 1) w1) (fun _ => rfl) _
      have k2' : WRow base (w1.setCell ⟨w.heap.size + 1, 0, none⟩ (.slice (some ⟨g2, 0, none⟩) A2.length cap2)) (.slice (some ⟨g2, 0, none⟩) A2.length cap2) A2 := k2.kept hs1 (fun k e => by simp [Value.ownBlock] at e; omega)
      have hs2 : Kept (fun i => i = g2) (w1.setCell ⟨w.heap.size + 1, 0, none⟩ (.slice (some ⟨g2, 0, none⟩) A2.length cap2)) ((w1.setCell ⟨w.heap.size + 1, 0, none⟩ (.slice (some ⟨g2, 0, none⟩) A2.length cap2)).setCell ⟨g2, n * 4 + 3, none⟩ (.int .i64 ((m : Int) + 1))) := Kept.setCell (p := ⟨g2, n * 4 + 3, none⟩) (Kept.refl (fun i => i = g2) _) (fun _ => rfl) _
      refine ⟨k1, k5, k6, k7, ⟨⟨hs2.at (hs1.at L1.r0 (by omega)) (by omega), hs2.at (by rw [setAt L1.l0]; simp) (by omega), hs2.at (hs1.at L1.n0 (by omega)) (by omega)⟩, ?_, ?_, ?_, M.old, M.lt⟩, (k1.kept hs1 (by have := M.lt; omega) (by have := M.lt; omega)).kept hs2 (by omega) (by omega)⟩
      · have := k2'.bump hn2
        rw [← hm] at this; exact this
      · intro k e
        simp [Value.ownBlock] at e
        subst e; exact hgo
      · have h1 := hK.out k4
        have h2 := h1.trans hs1 (fun i hi e => by omega)
        refine h2.trans hs2 (fun i hi e => ?_)
        subst e
        rcases hgo with e1 | e1
        · exact .inr e1
        · omega
    have hmb : m + 1 ≤ A2.length := by omega
    have HL : Hid (A2.length = a.length + is.length) := hl2
    have HN : Hid (A2[n].args = m) := hm.symm
    have HA : Hid (A2 = a ++ is) := hA2
    have hA5 : A2.length ≤ 100000 → True := fun _ => True.intro
    have hz2 : m ≤ 100000 := by omega
    clear c M hg2 hm hl2 hA2 hown1 hA5
    go_enter Tryz.func55, Tryz.ntmps55
    go_wp2_with (first | (go_at_call 23; refine c'.mono ?_; rintro e w1 ⟨g2, cap2, rfl, k1, k2, k3, k4, k5, k6, k7, HP⟩))
    go_end0
    obtain ⟨p1, p2, p3, p4, p5, p6⟩ := HP.out
    have hlen := HL.out
    rw [← HA.out]
    refine ⟨rfl, p6, ⟨⟨by rw [bump_length]; exact hn2, ?_⟩, _, p5⟩, p2, p3, by rw [bump_length]; omega⟩
    rw [bump_at hn2, bump_length, HN.out]
    exact hmb
end Go.Proofs.YtbjfpfnfbgncnaaGreatDoor
