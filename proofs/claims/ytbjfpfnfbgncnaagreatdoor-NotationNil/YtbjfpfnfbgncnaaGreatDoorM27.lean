import Derived.Test.YtbjfpfnfbgncnaaGreatDoorM26
/- Items become numbers: names by the symbols, variables as they first stand; what was written comes back, plain; no program in sight. -/
namespace Go.Proofs.YtbjfpfnfbgncnaaGreatDoor
set_option linter.unusedVariables false
def bsOf (l : List UInt8) : ByteArray := ⟨l.toArray⟩
theorem bsOf_list (s : ByteArray) : bsOf s.data.toList = s := rfl
/-- The symbol of a name: its first number. -/
def numOf (L : List Sym) (l : List UInt8) : Int := match findI L (bsOf l) with | some n => (n : Int) | none => -1
/-- The first Name that is wrong: what, and where. -/
def badName (L : List Sym) : List Item → Option (Nat × Nat)
  | [] => none
  | i :: r => if i.t.kind = 1 then (match findI L (bsOf i.t.text) with
      | none => some (43, i.t.at')
      | some n => if arN L (n : Int) = i.args then badName L r else some (44, i.t.at'))
    else badName L r
/-- The numbers of items, when the variables kn were met before; or the place of one that is too many. -/
def numF (L : List Sym) : List (List UInt8) → List Item → Except Nat (List Int × List (List UInt8))
  | kn, [] => .ok ([], kn)
  | kn, i :: r =>
    if i.t.kind = 1 then (numF L kn r).map (fun v => (numOf L i.t.text :: v.1, v.2))
    else if i.t.text ∈ kn then (numF L kn r).map (fun v => (-((kn.idxOf i.t.text : Int) + 1) :: v.1, v.2))
    else if kn.length = 99 then .error i.t.at'
    else (numF L (kn ++ [i.t.text]) r).map (fun v => (-((kn.length : Int) + 1) :: v.1, v.2))
/-- No two symbols have one name. -/
def NamesApart (L : List Sym) : Prop := ∀ i j (hi : i < L.length) (hj : j < L.length), L[i].name = L[j].name → i = j
theorem findI_at {L : List Sym} (h : NamesApart L) {i : Nat} (hi : i < L.length) : findI L L[i].name = some i := by
  cases hf : findI L L[i].name with
  | none => exact absurd rfl (findI_none hf L[i] (List.getElem_mem hi))
  | some j =>
    obtain ⟨hj, e⟩ := findI_lt hf
    rw [h j i hj hi e]
theorem nameOf_at {L : List Sym} {x : Int} (h0 : ¬ x < 0) (h1 : x < (L.length : Int)) : ∃ hx : x.toNat < L.length, bsOf (nameOf L x) = L[x.toNat].name := by
  have hlt : x.toNat < L.length := by omega
  refine ⟨hlt, ?_⟩
  unfold nameOf
  rw [List.getElem?_eq_getElem hlt]
  rfl
theorem find_name {L : List Sym} (h : NamesApart L) {x : Int} (h0 : ¬ x < 0) (h1 : x < (L.length : Int)) : findI L (bsOf (nameOf L x)) = some x.toNat := by
  obtain ⟨hx, e⟩ := nameOf_at h0 h1
  rw [e, findI_at h hx]
theorem bad_none {L : List Sym} (h : NamesApart L) : ∀ {is : List Item} {t : List Int}, is.map ikt = t.map (itemOf L) → (∀ x ∈ t, x < (L.length : Int) ∧ -99 ≤ x) → badName L is = none := by
  intro is
  induction is with
  | nil => intro t _ _; rfl
  | cons i is ih =>
    intro t e hx
    cases t with
    | nil => simp at e
    | cons x t =>
      rw [List.map_cons, List.map_cons, List.cons.injEq] at e
      obtain ⟨e1, e2⟩ := e
      have hi := ih e2 (fun y hy => hx y (by simp [hy]))
      have hx0 := hx x (by simp)
      unfold itemOf at e1
      by_cases h0 : x < 0
      · rw [if_pos h0] at e1
        simp [ikt, kt] at e1
        rw [badName, if_neg (by omega)]; exact hi
      · rw [if_neg h0] at e1
        simp [ikt, kt] at e1
        rw [badName, if_pos e1.1.1, e1.1.2, find_name h h0 hx0.1]
        simp only
        rw [if_pos (by rw [e1.2]; congr 1; omega)]; exact hi
/-- A variable's text. -/
def xt (v : Int) : List UInt8 := 88 :: Lib.decDigits v.toNat
theorem xt_inj {a b : Int} (ha : 0 ≤ a) (hb : 0 ≤ b) (h : xt a = xt b) : a = b := by
  have h2 := (List.cons.inj h).2
  have h3 := congrArg valL h2
  rw [dec_val, dec_val] at h3
  omega
theorem xt_mem {o : List Int} (ho : Neat o) {v : Int} (hv : 0 ≤ v) : xt v ∈ o.map xt ↔ v ∈ o := by
  constructor
  · intro h
    obtain ⟨u, hu, e⟩ := List.mem_map.1 h
    have := xt_inj (by have := ho.2 u hu; omega) hv e
    exact this ▸ hu
  · exact fun h => List.mem_map.2 ⟨v, h, rfl⟩
theorem xt_idx {o : List Int} (ho : Neat o) {v : Int} (hv : v ∈ o) : (o.map xt).idxOf (xt v) = o.idxOf v := by
  have hv0 : 0 ≤ v := by have := ho.2 v hv; omega
  induction o with
  | nil => simp at hv
  | cons u o ih =>
    have hu0 : 0 ≤ u := by have := ho.2 u (by simp); omega
    have ho2 : Neat o := ⟨(List.nodup_cons.1 ho.1).2, fun y hy => ho.2 y (by simp [hy])⟩
    rw [List.map_cons, List.idxOf_cons, List.idxOf_cons]
    by_cases e : u = v
    · subst e; simp
    · have hne : xt u ≠ xt v := fun h => e (xt_inj hu0 hv0 h)
      have hv2 : v ∈ o := by
        rcases List.mem_cons.1 hv with h | h
        · exact absurd h.symm e
        · exact h
      have b1 : (xt u == xt v) = false := beq_eq_false_iff_ne.2 hne
      have b2 : (u == v) = false := beq_eq_false_iff_ne.2 e
      rw [b1, b2, ih ho2 hv2]
theorem neat_card (n : Nat) : ∀ o : List Int, o.Nodup → (∀ v ∈ o, 1 ≤ v ∧ v ≤ (n : Int)) → o.length ≤ n := by
  induction n with
  | zero =>
    intro o _ h
    cases o with
    | nil => simp
    | cons v o => have := h v (by simp); omega
  | succ n ih =>
    intro o hd h
    by_cases hm : ((n : Int) + 1) ∈ o
    · have h1 := ih (o.erase ((n : Int) + 1)) (hd.erase _) (fun v hv => by
        have h2 := (List.Nodup.mem_erase_iff hd).1 hv
        have := h v h2.2
        have := h2.1
        omega)
      rw [List.length_erase_of_mem hm] at h1
      omega
    · have := ih o hd (fun v hv => by
        have h2 := h v hv
        have : v ≠ (n : Int) + 1 := fun e => hm (e ▸ hv)
        omega)
      omega
/-- What was written comes back, its variables numbered as they first stand. -/
theorem num_back {L : List Sym} (h : NamesApart L) : ∀ {t : List Int} {is : List Item} {o : List Int}, is.map ikt = t.map (itemOf L) → (∀ x ∈ t, x < (L.length : Int) ∧ -99 ≤ x) → Neat o → numF L (o.map xt) is = .ok (t.map (pl (vs o t)), (vs o t).map xt) := by
  intro t
  induction t with
  | nil =>
    intro is o e _ _
    cases is with
    | nil => rfl
    | cons i is => simp at e
  | cons x t ih =>
    intro is o e hx ho
    cases is with
    | nil => simp at e
    | cons i is =>
      rw [List.map_cons, List.map_cons, List.cons.injEq] at e
      obtain ⟨e1, e2⟩ := e
      have hx0 := hx x (by simp)
      have hxs : ∀ y ∈ t, y < (L.length : Int) ∧ -99 ≤ y := fun y hy => hx y (by simp [hy])
      have hvs : vs o (x :: t) = vs (vstep o x) t := rfl
      have hn2 := neat_step ho x
      have hi := ih e2 hxs hn2
      have hsub := vs_sub (vstep o x) t
      unfold itemOf at e1
      by_cases h0 : x < 0
      · rw [if_pos h0] at e1
        simp [ikt, kt] at e1
        have hk : ¬ i.t.kind = 1 := by omega
        have htx : i.t.text = xt (-x) := e1.1.2
        have hV : isV x = true := isV_iff.2 ⟨hx0.2, by omega⟩
        have hneg : (0 : Int) ≤ -x := by omega
        by_cases hm : -x ∈ o
        · have hst : vstep o x = o := by rw [vstep, if_neg (by simp [hm])]
          rw [hst] at hi hsub hvs
          have hmm : xt (-x) ∈ o.map xt := (xt_mem ho hneg).2 hm
          rw [numF, if_neg hk, htx, if_pos hmm, hi, xt_idx ho hm]
          simp only [Except.map, hvs, List.map_cons, pl, if_pos hV]
          rw [idx_prefix hsub hm]
        · have hst : vstep o x = o ++ [-x] := by rw [vstep, if_pos ⟨hV, hm⟩]
          rw [hst] at hi hsub hvs hn2
          have hmm : ¬ xt (-x) ∈ o.map xt := fun hh => hm ((xt_mem ho hneg).1 hh)
          have hlen : ¬ (o.map xt).length = 99 := by
            have := neat_card 99 (o ++ [-x]) hn2.1 (fun v hv => by have := hn2.2 v hv; omega)
            simp at this ⊢; omega
          rw [numF, if_neg hk, htx, if_neg hmm, if_neg hlen]
          have hmap : o.map xt ++ [xt (-x)] = (o ++ [-x]).map xt := by simp
          rw [hmap, hi]
          simp only [Except.map, hvs, List.map_cons, pl, if_pos hV, List.length_map]
          have hin : -x ∈ o ++ [-x] := by simp
          rw [idx_prefix hsub hin, List.idxOf_append, if_neg hm]
          simp
      · rw [if_neg h0] at e1
        simp [ikt, kt] at e1
        have hV : ¬ isV x = true := by rw [isV_iff]; omega
        have hst : vstep o x = o := by rw [vstep, if_neg (by simp [hV])]
        rw [hst] at hi hvs
        rw [numF, if_pos e1.1.1, hi]
        simp only [Except.map, hvs, List.map_cons, pl, if_neg hV]
        have : numOf L i.t.text = x := by
          unfold numOf
          rw [e1.1.2, find_name h h0 hx0.1]
          simp only
          omega
        rw [this]
/-- A term read off tokens: what is wrong, and where; or its numbers. -/
def termR (L : List Sym) (ts : List Tok) : Except (Nat × Nat) (List Int) := match termF ts.length ts with
  | .error p => .error (41, p)
  | .ok (_, []) => .error (41, 0)
  | .ok (is, c :: _) =>
    if c.kind = 13 then (match badName L is with
      | some w => .error w
      | none => if 2000 < is.length then .error (45, (is.head?.map (fun i => i.t.at')).getD 0) else (match numF L [] is with
        | .error p => .error (46, p)
        | .ok v => .ok v.1))
    else .error (41, c.at')
/-- What is written of a term is read as the same, plain. -/
theorem termR_back {L : List Sym} (hL : NamesOk L) (hA : NamesApart L) {t : List Int} (ht : checkE L t = 0) : ∃ l, lexF 0 (toldB L t) = .ok l ∧ termR L l = .ok (t.map (pl (vs [] t))) := by
  obtain ⟨hlen, hb, hT⟩ := checkE_zero.1 ht
  have hx := badE_zero.1 hb
  obtain ⟨l, hl, hf⟩ := text_back hL ht
  obtain ⟨is, r, h1, h2, h3⟩ := hf l.length (Nat.le_refl _)
  refine ⟨l, hl, ?_⟩
  unfold termR
  rw [h1]
  cases r with
  | nil => simp at h3
  | cons c r =>
    rw [List.map_cons, List.cons.injEq] at h3
    have hc : c.kind = 13 := by have := h3.1; simp [kt] at this; exact this.1
    have hil : is.length = t.length := by have := congrArg List.length h2; simpa using this
    simp only [if_pos hc, bad_none hA h2 hx]
    rw [if_neg (by omega)]
    have := num_back hA (o := []) h2 hx neat_nil
    simp only [List.map_nil] at this
    rw [this]
end Go.Proofs.YtbjfpfnfbgncnaaGreatDoor
