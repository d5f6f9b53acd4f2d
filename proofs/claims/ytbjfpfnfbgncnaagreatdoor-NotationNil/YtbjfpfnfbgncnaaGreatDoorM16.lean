import Derived.Test.YtbjfpfnfbgncnaaGreatDoorM15
import Derived.Test.YtbjfpfnfbgncnaaGreatDoorM12
import Derived.Deep.QuietTactic
import Derived.Deep.DeepCutAuto
/- The walk of how a term is written. -/
namespace Go.Proofs.YtbjfpfnfbgncnaaGreatDoor
open Go.RowKit
set_option linter.unusedVariables false
set_option maxRecDepth 100000
/-- So many things, with commas between; i: how many were written before. -/
def wA (p : List Int → Option (List UInt8 × List Int)) : Nat → Nat → List Int → Option (List UInt8 × List Int)
  | 0, _, t => some ([], t)
  | n + 1, i, t => match p t with
    | none => none
    | some (x, r) => match wA p n (i + 1) r with
      | none => none
      | some (y, q) => some ((if i = 0 then [] else [44]) ++ x ++ y, q)
/-- The text of the term that a list begins with, and the list behind it; variables below 100. -/
def wT (L : List Sym) : Nat → List Int → Option (List UInt8 × List Int)
  | 0, _ => none
  | _ + 1, [] => none
  | f + 1, x :: r => if x < 0 then (if -x < 100 then some (88 :: Lib.decDigits (-x).toNat, r) else none)
    else match L[x.toNat]? with
      | none => none
      | some s => if s.ar = 0 then some (s.name.data.toList, r) else match wA (wT L f) s.ar.toNat 0 r with
        | none => none
        | some (y, q) => some (s.name.data.toList ++ 40 :: (y ++ [41]), q)
/-- A list of numbers all of whose cells lie below base. -/
def TmIn (base : Nat) (w : World) (ao : Option Addr) (t : List Int) : Prop := IntsAt w ao t ∧ ∀ a, ao = some a → a.block < base
theorem TmIn.wrote {base b : Nat} {w w' : World} {ao : Option Addr} {t : List Int} (h : TmIn base w ao t) (k : Wrote base b w w') : TmIn base w' ao t := ⟨h.1.kept k (fun a e s => by have := h.2 a e; omega), h.2⟩
/-- The list behind its first number. -/
theorem TmIn.tail {base : Nat} {w : World} {ao : Option Addr} {x : Int} {r : List Int} (h : TmIn base w ao (x :: r)) : ∃ b off, ao = some ⟨b, off, none⟩ ∧ w.cell? ⟨b, off, none⟩ = some (.int .i64 x) ∧ TmIn base w (some ⟨b, off + 1, none⟩) r ∧ (r = [] → TmIn base w (some ⟨b, off, none⟩) r) := by
  rcases h.1 with e | ⟨b, off, rfl, hlt, hc⟩
  · cases e
  · have hb := h.2 _ rfl
    refine ⟨b, off, rfl, by have h0 := hc 0 (by simp); simpa only [Nat.add_zero, List.getElem_cons_zero] using h0, ⟨.inr ⟨b, off + 1, rfl, hlt, fun i hi => ?_⟩, fun a e => by cases e; exact hb⟩, fun e => ⟨.inl e, fun a e => by cases e; exact hb⟩⟩
    have := hc (i + 1) (by simpa using hi)
    simp only [List.getElem_cons_succ] at this
    rw [show off + (i + 1) = off + 1 + i by omega] at this
    exact this
def WGood (L : List Sym) (f : Nat) : Prop := ∀ (base b bs : Nat) (l : List UInt8) (w : World) (ao : Option Addr) (t : List Int) (cap : Nat) (x : List UInt8) (q : List Int), WrB base b l w → Sg base w bs L → TmIn base w ao t → t.length ≤ cap → cap ≤ maxLen → wT L f t = some (x, q) → l.length + t.length * 20 ≤ 1000000 → base ≤ w.heap.size → (∀ s ∈ L, s.name.size ≤ 12) →
  Calls Tryz.prog 32 #[.pointer (some ⟨b, 0, none⟩), .pointer (some ⟨bs, 0, none⟩), .slice ao t.length cap] w fun e w' => ∃ ao' cap', e = .returned (.slice ao' q.length cap') ∧ TmIn base w' ao' q ∧ q.length ≤ cap' ∧ cap' ≤ maxLen ∧ WrB base b (l ++ x) w' ∧ Wrote base b w w' ∧ x.length + q.length * 20 + 3 ≤ t.length * 20
theorem local_keptB {base b i : Nat} {w w' : World} {cs : Array Value} {T : TypeId} (k : Wrote base b w w') (h : w.heap[i]? = some (.cells cs T (0, 0))) (hT : T ≠ 5) (hi : i ≠ b) : w'.heap[i]? = some (.cells cs T (0, 0)) := by
  refine Kept.at k h (fun e => ?_)
  rcases e.2 with e | ⟨cur, fr, e⟩
  · exact hi e
  · rw [h] at e; cases e; exact hT rfl
/-- What the loop over arguments holds. -/
structure WAt (L : List Sym) (f base b : Nat) (w : World) (pre Y : List UInt8) (q : List Int) (n T0 k : Nat) (wr : World) (ao : Option Addr) (t : List Int) (cap : Nat) (y y' : List UInt8) : Prop where
  wb : WrB base b (pre ++ y) wr
  tm : TmIn base wr ao t
  cp : t.length ≤ cap ∧ cap ≤ maxLen
  rest : wA (wT L f) (n - k) k t = some (y', q)
  eq : Y = y ++ y'
  wrote : Wrote base b w wr
  bd : y.length + t.length * 20 + 2 * k ≤ T0 * 20
set_option maxHeartbeats 8000000 in
theorem wterm_step {L : List Sym} {f : Nat} (ih : WGood L f) : WGood L (f + 1) := by
  intro base b bs l w ao t cap x q hW hS hT hc1 hc2 hx hlen hBw hnm
  cases t with
  | nil => simp [wT] at hx
  | cons z r =>
    obtain ⟨tb, off, rfl, q0, hT1, hT2⟩ := hT.tail
    have htb := hT.2 _ rfl
    have hbl := hW.lt
    simp only [List.length_cons] at hc1 hlen
    have HI : Hid (WGood L f) := ih
    have HS : Hid (Sg base w bs L) := hS
    have HW : Hid (WrB base b l w) := hW
    have hx' : Hid (wT L (f + 1) (z :: r) = some (x, q)) := hx
    have HN : Hid (∀ s ∈ L, s.name.size ≤ 12) := hnm
    clear ih hS hW hx hT hnm
    go_enter Tryz.func32, Tryz.ntmps32
    go_upto_region 1 with (fail)
    go_cut [7, 8] (fun s7 s8 wc => s7 = .int .i64 z ∧ ∃ ao' cap', s8 = .slice ao' r.length cap' ∧ TmIn base wc ao' r ∧ r.length ≤ cap' ∧ cap' ≤ maxLen ∧ wc = w.drew)
    case first =>
      have q0' : w.drew.cell? ⟨tb, off, none⟩ = some (.int .i64 z) := q0
      by_cases hcap : cap = 1
      · subst hcap
        have hr0 : r = [] := List.eq_nil_of_length_eq_zero (by omega)
        subst hr0
        clear hT1
        go_region
        all_goals
          go_wp2_with fail
          go_meet
          case rel => exact ⟨rfl, _, _, rfl, (hT2 (by trivial)).wrote (b := b) (Wrote.of_same (Kept.drew (Kept.refl _ w))), by simp, by unfold maxLen; omega, rfl⟩
      · go_region
        all_goals
          go_wp2_with fail
          go_meet
          case rel => exact ⟨rfl, _, _, rfl, hT1.wrote (b := b) (Wrote.of_same (Kept.drew (Kept.refl _ w))), by omega, by omega, rfl⟩
    case rest =>
      obtain ⟨rfl, ao2, cap2, rfl, hTm, hd1, hd2, rfl⟩ := hcut
      have kd : Same0 w w.drew := Kept.drew (Kept.refl _ w)
      have hW1 := HW.out.same kd
      have hS1 := HS.out.same kd
      have KD : Hid (Wrote base b w w.drew) := Wrote.of_same kd
      obtain ⟨W, hWd⟩ : ∃ W, w.drew = W := ⟨_, rfl⟩
      rw [hWd] at hTm hW1 hS1 KD ⊢
      have hBW : base ≤ W.heap.size := by rw [← hWd]; exact hBw
      have hbl2 := hW1.lt
      have HX := hx'.out
      clear hWd kd HW HS hx' q0 hT1 hT2
      by_cases hz : z < 0
      · simp only [wT, hz, if_true] at HX
        split at HX
        · rename_i h100
          cases HX
          obtain ⟨n, hn⟩ : ∃ n : Nat, -z = (n : Int) := ⟨(-z).toNat, by omega⟩
          have hn2 : n < 100 := by omega
          have hzt : (-z).toNat = n := by omega
          have hd := dec_len (u := n) (k := 1) (by omega)
          have cX := wwrite_any hW1 ⟨#[88]⟩ (by have hx : (⟨#[88]⟩ : ByteArray).size = 1 := rfl; omega) hBW
          have HTM : Hid (TmIn base W ao2 _) := hTm
          have HZ : Hid ((88 :: Lib.decDigits n).length ≤ 3) := by show _ ≤ _; simp; omega
          obtain rfl : z = -(n : Int) := by omega
          clear hn h100 hzt hTm hd hS1
          go_wp2_with (first | (go_at_call 63; refine cX.mono ?_; rintro e w1 ⟨rfl, h1, h2⟩; have cN := wnumber_small h1 n hn2 (by rw [List.length_append]; simp; omega) (by have := h2.size; omega)) | (go_at_call 64; refine cN.mono ?_; rintro e w2 ⟨rfl, h3, h4⟩))
          go_ret
          have e1 : (- -(n : Int)).toNat = n := by omega
          rw [e1]
          have hz3 := HZ.out
          exact ⟨_, _, rfl, (HTM.out.wrote h2).wrote h4, hd1, hd2, by simpa using h3, (KD.out.trans h2).trans h4, by omega⟩
        · cases HX
      · simp only [wT, hz, if_false] at HX
        have hzn : ¬ z < 0 := hz
        obtain ⟨k, rfl⟩ : ∃ k : Nat, z = (k : Int) := ⟨z.toNat, by omega⟩
        simp only [Int.toNat_natCast] at HX
        cases hk : L[k]? with
        | none => rw [hk] at HX; cases HX
        | some sy =>
          rw [hk] at HX
          simp only at HX
          obtain ⟨hkl, hsy⟩ := List.getElem?_eq_some_iff.1 hk
          have HSg : Hid (Sg base W bs L) := hS1
          obtain ⟨⟨sv, mr, hA, _⟩, hars⟩ := hS1
          have cA := at_yes hA k hkl
          rw [hsy] at cA
          have hnl := HN.out sy (List.mem_of_getElem? hk)
          have har := hars sy (List.mem_of_getElem? hk)
          obtain ⟨nm, ar, df⟩ := sy
          simp only at cA hnl har HX
          have HTM : Hid (TmIn base W ao2 r) := hTm
          have hnd : nm.data.toList.length ≤ 12 := by rw [← size_list]; exact hnl
          have hkp : ¬ ((k : Int) < 0) := by omega
          clear hA hk hsy hTm hz hzn
          go_upto_region 7 with (first | (go_at_call 57; refine cA.mono ?_; rintro e w1 ⟨rfl, k1⟩))
          have kA : Same0 W (w1.alloc (.cells #[.string nm, .int .i64 ar, .bool df] 95)).drew := Kept.drew (Kept.alloc k1 _)
          have hloc : (w1.alloc (.cells #[.string nm, .int .i64 ar, .bool df] 95)).drew.heap[w1.heap.size]? = some (.cells #[.string nm, .int .i64 ar, .bool df] 95 (0, 0)) := heap_alloc_new w1 _
          have hk1 := k1.size
          have cW := wwrite_any (hW1.same kA) nm (by omega) (by have := kA.size; omega)
          have s0 : (w1.alloc (.cells #[.string nm, .int .i64 ar, .bool df] 95)).cell? ⟨w1.heap.size, 0, none⟩ = some (.string nm) := by rw [cellAt (heap_alloc_new w1 _)]; rfl
          refine wp_region_held (S := fun w' => w'.cell? ⟨w1.heap.size, 0, none⟩ = some (.string nm)) (by kernel_rfl) ?_
          refine wpAnyH_take (i := 0) (v := .pointer (some ⟨b, 0, none⟩)) rfl (by kernel_rfl) (by kernel_rfl) (by kernel_rfl) (fun _ _ _ h => h) (.inl ⟨rfl, fun w' hS => by simp [go_sem]⟩) s0 ?_
          refine wpAnyH_take (i := 1) (v := .pointer (some ⟨b, 0, none⟩)) rfl (by kernel_rfl) (by kernel_rfl) (by kernel_rfl) (fun _ _ _ h => h) (.inl ⟨rfl, fun w' hS => by simp [go_sem]⟩) s0 ?_
          refine wpAnyH_take (i := 2) (v := .pointer (some ⟨b, 0, none⟩)) rfl (by kernel_rfl) (by kernel_rfl) (by kernel_rfl) (fun _ _ _ h => h) (.inl ⟨rfl, fun w' hS => by simp [go_sem]⟩) s0 ?_
          refine wpAnyH_take (i := 3) (v := .pointer (some ⟨w1.heap.size, 0, none⟩)) rfl (by kernel_rfl) (by kernel_rfl) (by kernel_rfl) (fun _ _ _ h => h) (.inl ⟨rfl, fun w' hS => by simp [go_sem]⟩) s0 ?_
          refine wpAnyH_take (i := 4) (v := .string nm) rfl (by kernel_rfl) (by kernel_rfl) (by kernel_rfl) (fun _ _ _ h => h) (.inl ⟨rfl, fun w' hS => by simp [go_sem, hS]⟩) s0 ?_
          refine wpAnyH_all (rs := [5]) (by kernel_rfl) (by simp) (fun i hi => ?_)
          obtain rfl := List.mem_singleton.1 hi
          simp [wpOp, go_sem]
          refine .inl (cW.mono ?_)
          rintro e w3 ⟨rfl, h1, h2⟩
          have l3 := local_keptB h2 hloc (by decide) (by omega)
          have LOC : Hid (w3.heap[w1.heap.size]? = some (.cells #[.string nm, .int .i64 ar, .bool df] 95 (0, 0))) := l3
          have y0 := cellAt l3 0
          have y1 := cellAt l3 1
          simp only [List.getElem?_toArray, List.getElem?_cons_zero, List.getElem?_cons_succ] at y0 y1
          refine ⟨y0, wpAnyH_done (by kernel_rfl) ?_ _⟩
          simp only [Exit.then]
          have KW : Hid (Wrote base b w w3) := (KD.out.trans (Wrote.of_same kA)).trans h2
          have HT3 : Hid (TmIn base w3 ao2 r) := (HTM.out.wrote (b := b) (Wrote.of_same kA)).wrote h2
          have HS3 : Hid (Sg base w3 bs L) := ((HSg.out.same kA).kept h2 (fun j hj e => by omega))
          have hz3 := h2.size
          have hzA := kA.size
          clear cW s0 hloc kA l3 HTM
          by_cases h0 : ar = 0
          · subst h0
            simp only [if_true] at HX
            cases HX
            go_wp2_with fail
            go_ret
            exact ⟨_, _, rfl, HT3.out, hd1, hd2, h1, KW.out, by omega⟩
          · simp only [h0, if_false] at HX
            obtain ⟨n, rfl⟩ : ∃ n : Nat, ar = (n : Int) := ⟨ar.toNat, by omega⟩
            simp only [Int.toNat_natCast] at HX
            cases hY : wA (wT L f) n 0 r with
            | none => rw [hY] at HX; cases HX
            | some v =>
              obtain ⟨Y, q'⟩ := v
              rw [hY] at HX
              simp only [Option.some.injEq, Prod.mk.injEq] at HX
              obtain ⟨hxe, rfl⟩ := HX
              have HXE : Hid (nm.data.toList ++ 40 :: (Y ++ [41]) = x) := hxe
              have hne0 : ((n : Int) == 0) = false := by simp; omega
              obtain ⟨T1, hT1⟩ : ∃ T1, T1 = l ++ nm.data.toList := ⟨_, rfl⟩
              have hT1l : T1.length ≤ l.length + 12 := by rw [hT1, List.length_append]; omega
              have HT1 : Hid (T1 = l ++ nm.data.toList) := hT1
              rw [← hT1] at h1
              have cP := wwrite_any h1 ⟨#[40]⟩ (by have hx : (⟨#[40]⟩ : ByteArray).size = 1 := rfl; omega) (by omega)
              have HY : Hid (wA (wT L f) n 0 r = some (Y, q')) := hY
              clear hxe hY hT1
              go_upto_region 11 with (first | (go_at_call 63; refine cP.mono ?_; rintro e w4 ⟨rfl, h5, h6⟩))
              have l4 := local_keptB h6 LOC.out (by decide) (by omega)
              have y2 := cellAt l4 1
              simp only [List.getElem?_toArray, List.getElem?_cons_zero, List.getElem?_cons_succ] at y2
              have HT4 := HT3.out.wrote h6
              have HS4 : Hid (Sg base w4 bs L) := HS3.out.kept h6 (fun j hj e => by omega)
              have KW4 : Hid (Wrote base b w w4) := KW.out.trans h6
              have hz4 := h6.size
              have HI0 : Hid (WAt L f base b w4 (T1 ++ [40]) Y q' n r.length 0 w4 ao2 r cap2 [] Y) := ⟨by rw [List.append_nil]; exact h5, HT4, ⟨hd1, hd2⟩, HY.out, by simp, Wrote.refl _ _ _, by simp⟩
              clear cP l4 HT4 h5 h6 y0 y1
              go_wp2_with fail
              go_loopw [50, 8] (fun i rs wr => ∃ (k : Nat) (ao : Option Addr) (t : List Int) (cp : Nat) (y y' : List UInt8), i = .int .i64 (k : Int) ∧ rs = .slice ao t.length cp ∧ k ≤ n ∧ WAt L f base b w4 (T1 ++ [40]) Y q' n r.length k wr ao t cp y y') (fun i _ _ => n - (intOf i).toNat)
              case atStart => exact ⟨0, ao2, r, cap2, [], Y, rfl, rfl, Nat.zero_le _, HI0.out⟩
              case round =>
                obtain ⟨j, ao3, t3, cp3, ya, yb, rfl, rfl, hj, I⟩ := hrel
                by_cases hlt : j < n
                · have hrest := I.rest
                  obtain ⟨m, hm⟩ : ∃ m, n - j = m + 1 := ⟨n - j - 1, by omega⟩
                  rw [hm] at hrest
                  simp only [wA] at hrest
                  cases hP : wT L f t3 with
                  | none => rw [hP] at hrest; cases hrest
                  | some v =>
                    obtain ⟨xa, ra⟩ := v
                    rw [hP] at hrest
                    simp only at hrest
                    cases hQ : wA (wT L f) m (j + 1) ra with
                    | none => rw [hQ] at hrest; cases hrest
                    | some v =>
                      obtain ⟨yc, qc⟩ := v
                      rw [hQ] at hrest
                      simp only [Option.some.injEq, Prod.mk.injEq] at hrest
                      obtain ⟨hyb, rfl⟩ := hrest
                      have hbd := I.bd
                      have hsz4 := I.wrote.size
                      have hyl : (T1 ++ [40] ++ ya).length ≤ l.length + 13 + ya.length := by simp only [List.length_append, List.length_cons, List.length_nil]; omega
                      have cB := wbetween I.wb j ⟨#[44]⟩ (by decide) (by omega) (by omega)
                      have hs1 : (if j = 0 then ([] : List UInt8) else (⟨#[44]⟩ : ByteArray).data.toList).length ≤ 1 := by split <;> simp
                      obtain ⟨S1, hS1⟩ : ∃ S1, S1 = (if j = 0 then ([] : List UInt8) else (⟨#[44]⟩ : ByteArray).data.toList) := ⟨_, rfl⟩
                      rw [← hS1] at cB hs1
                      have hS1' : (if j = 0 then ([] : List UInt8) else [44]) = S1 := by rw [hS1]
                      have HYB : Hid (yb = S1 ++ xa ++ yc) := by show _ = _; rw [← hyb, ← hS1']
                      have cT : Hid (∀ w5, WrB base b (T1 ++ [40] ++ ya ++ S1) w5 → Wrote base b wr w5 → Calls Tryz.prog 32 #[.pointer (some ⟨b, 0, none⟩), .pointer (some ⟨bs, 0, none⟩), .slice ao3 t3.length cp3] w5 fun e w' => ∃ ao' cap', e = .returned (.slice ao' ra.length cap') ∧ TmIn base w' ao' ra ∧ ra.length ≤ cap' ∧ cap' ≤ maxLen ∧ WrB base b (T1 ++ [40] ++ ya ++ S1 ++ xa) w' ∧ Wrote base b w5 w' ∧ xa.length + ra.length * 20 + 3 ≤ t3.length * 20) := fun w5 g1 g2 =>
                        HI.out base b bs _ w5 ao3 t3 cp3 xa ra g1 ((HS4.out.kept I.wrote (fun j hj e => by omega)).kept g2 (fun j hj e => by omega)) (I.tm.wrote g2) I.cp.1 I.cp.2 hP (by rw [List.length_append]; omega) (by have := g2.size; omega) HN.out
                      have HQ : Hid (wA (wT L f) (n - (j + 1)) (j + 1) ra = some (yc, qc)) := by rw [show n - (j + 1) = m by omega]; exact hQ
                      have HII : Hid (Y = ya ++ yb ∧ Wrote base b w4 wr) := ⟨I.eq, I.wrote⟩
                      have d1 : (j : Int) < (n : Int) := by omega
                      clear I hP hQ hm hyb hS1 hS1' hyl
                      go_wp2_with (first | (go_at_call 65; refine cB.mono ?_; rintro e w5 ⟨rfl, g1, g2⟩) | (go_at_call 32; refine (cT.out _ g1 g2).mono ?_; rintro e w6 ⟨ao5, cap5, rfl, g3, g4, g5, g6, g7, g8⟩))
                      go_roundw
                      case rel => exact ⟨j + 1, ao5, ra, cap5, ya ++ S1 ++ xa, yc, by go_num, rfl, by omega, ⟨by simpa using g6, g3, ⟨g4, g5⟩, HQ.out, by rw [HII.out.1, HYB.out]; simp, (HII.out.2.trans g2).trans g7, by simp only [List.length_append]; omega⟩⟩
                      case measure => simp [intOf]; omega
                · obtain rfl : j = n := by omega
                  have d1 : ¬ ((j : Int) < (j : Int)) := by omega
                  have hrest := I.rest
                  rw [Nat.sub_self] at hrest
                  simp only [wA, Option.some.injEq, Prod.mk.injEq] at hrest
                  obtain ⟨rfl, rfl⟩ := hrest
                  have hbd := I.bd
                  have hYe : Y = ya := by rw [I.eq]; simp
                  have hsz4 := I.wrote.size
                  have cC := wwrite_any I.wb ⟨#[41]⟩ (by have hx : (⟨#[41]⟩ : ByteArray).size = 1 := rfl; simp only [List.length_append, List.length_cons, List.length_nil]; omega) (by omega)
                  have HII : Hid (Y = ya ∧ Wrote base b w4 wr ∧ TmIn base wr ao3 t3 ∧ t3.length ≤ cp3 ∧ cp3 ≤ maxLen) := ⟨hYe, I.wrote, I.tm, I.cp.1, I.cp.2⟩
                  clear I hYe
                  go_wp2_with (first | (go_at_call 63; refine cC.mono ?_; rintro e w5 ⟨rfl, g1, g2⟩))
                  go_ret
                  obtain ⟨z1, z2, z3, z4, z5⟩ := HII.out
                  have hxx : l ++ x = T1 ++ [40] ++ ya ++ [41] := by rw [← HXE.out, HT1.out, z1]; simp
                  refine ⟨_, _, rfl, z3.wrote g2, z4, z5, by rw [hxx]; exact g1, (KW4.out.trans z2).trans g2, ?_⟩
                  rw [← HXE.out, z1]
                  simp only [List.length_append, List.length_cons, List.length_nil]
                  omega
end Go.Proofs.YtbjfpfnfbgncnaaGreatDoor
