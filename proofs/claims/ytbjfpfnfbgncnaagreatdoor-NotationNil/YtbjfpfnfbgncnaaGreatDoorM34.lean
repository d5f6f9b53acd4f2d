import Derived.Test.YtbjfpfnfbgncnaaGreatDoorM33
import Derived.Test.YtbjfpfnfbgncnaaGreatDoorM22
import Derived.Test.YtbjfpfnfbgncnaaGreatDoorM24
import Derived.Test.YtbjfpfnfbgncnaaGreatDoorM15
/- The walk of the face Moves, of a text that lex takes. -/
namespace Go.Proofs.YtbjfpfnfbgncnaaGreatDoor
open Go.RowKit
set_option linter.unusedVariables false
set_option maxRecDepth 100000
/-- The cells of moves, their paths' slices given. -/
def moCells : List (List Nat × Nat) → List Value → List Value
  | x :: a, v :: pv => v :: .int .i64 (x.2 : Int) :: moCells a pv
  | _, _ => []
theorem mv2_mo : ∀ (a : List Mv) (pv : List Value), mv2Cells a pv = moCells (a.map (fun x => x.2)) pv := by
  intro a
  induction a with
  | nil => intro pv; simp [mv2Cells, moCells]
  | cons x a ih =>
    intro pv
    cases pv with
    | nil => simp [mv2Cells, moCells]
    | cons v pv => simp [mv2Cells, moCells, ih pv]
/-- Moves in memory: their row, and the paths, each in a block of its own. -/
def MovesAt (base : Nat) (w : World) (v : Value) (ms : List (List Nat × Nat)) : Prop := ∃ pv, w.ownsRow base 142 2 v ms.length (moCells ms pv) ∧ pv.length = ms.length ∧ ∀ i (h : i < ms.length) (h' : i < pv.length), w.ownsRow base 3 1 pv[i] ms[i].1.length (intV ms[i].1) ∧
  ∀ k, pv[i].ownBlock = some k → v.ownBlock ≠ some k ∧ ∀ j (hj : j < pv.length), j ≠ i → pv[j].ownBlock ≠ some k
theorem MovesAt.same {base : Nat} {w w' : World} {v : Value} {ms : List (List Nat × Nat)} {S : Nat → Prop} (h : MovesAt base w v ms) (k : Kept S w w') (hs : ∀ i, base ≤ i → ¬ S i) : MovesAt base w' v ms := by
  obtain ⟨pv, h1, h2, h3⟩ := h
  exact ⟨pv, k.row h1 (fun j e => hs j (own_ge h1 e).1), h2, fun i a b => ⟨k.row (h3 i a b).1 (fun j e => hs j (own_ge (h3 i a b).1 e).1), (h3 i a b).2⟩⟩
/-- The answer of Moves. -/
def ToldM (base : Nat) (w : World) (v er : Value) (R : Except (Nat × Nat) (List (List Nat × Nat))) : Prop := match R with
  | .ok ms => MovesAt base w v ms ∧ er = .nilIface
  | .error cp => v = .slice none 0 0 ∧ ErrAt base w er cp
theorem movesR_list {l : List Tok} (hE : EndsT l) : movesR l = (match listM l with
    | .error p => .error (41, p)
    | .ok (_, []) => .error (41, 0)
    | .ok (a, c :: _) => if c.kind = 13 then (if 1000 < a.length then .error (42, (a[1000]?.map (fun x => x.1)).getD 0) else .ok (a.map (fun x => x.2))) else .error (41, c.at')) := by
  cases l with
  | nil => exact absurd rfl hE.ne
  | cons t r =>
    by_cases h : t.kind = 13
    · simp [movesR, listM, h]
    · simp only [movesR, listM, h, if_false]
      cases movesF (t :: r).length (t :: r) with
      | error p => rfl
      | ok v =>
        obtain ⟨a, q⟩ := v
        cases q <;> rfl
set_option maxHeartbeats 4000000 in
theorem moves_face {s : ByteArray} {w : World} {l : List Tok} (hs : s.size ≤ maxLen) (h : scanL s.data.toList = .ok l) : Calls Tryz.prog 15 #[.string s] w fun e w' => ∃ v er, e = .returned (.tuple #[v, er]) ∧ ToldM w.heap.size w' v er (movesR l) ∧ Same0 w w' := by
  have c1 := open_ok (w := w.alloc (.cells #[.nilIface] 26)) hs h
  have hE := scan_ends h
  have hlen : l.length ≤ 50000 := by have := scanL_len h; omega
  have hmf : ∀ (fn : Fn) (first cap : Array Value) (w : World), (Instr.makeFunc fn first cap).run Tryz.prog w = .ok (.func fn first cap) w := fun _ _ _ _ => rfl
  rw [movesR_list hE]
  clear h
  cases hP : listM l with
  | error p =>
    have HE : Hid (∀ {w rb tb}, RdAt w rb tb l → Calls Tryz.prog 45 #[.pointer (some ⟨rb, 0, none⟩)] w (MovesCame rb tb w (.error p))) := fun {w rb tb} hR => by have := moves_any hE hR hlen; rw [hP] at this; exact this
    clear hP hE
    go_enter_defers Tryz.func15, Tryz.ntmps15
    go_wp2_with (first | (go_at_call 22; refine c1.mono ?_; rintro e w1 ⟨rb, tb, rfl, k1, k2, k3, k4⟩) | (go_at_call 45; refine (HE.out k1).mono ?_; rintro e w2 ⟨⟨b, rfl, g0, g1⟩, g2⟩))
    have hN : ¬ w.heap.size = rb := by simp only [World.size_alloc] at k2; omega
    have K2 := (Kept.mono k4 (fun _ _ f => f.elim)).trans g2 (S := fun i => i = rb) (fun _ _ e => e)
    obtain ⟨v1, v2, v3⟩ := errvar K2 hN
    have hb : w.heap.size < b := by have h1 := k4.size; simp only [World.size_alloc] at h1; omega
    refine leaves_cons (f := 44) (args := #[.pointer (some ⟨w.heap.size, 0, none⟩)]) (by simp) (by simp [go_sem]) ?_
    refine (catch_fault_Moves ⟨w.heap.size, 0, none⟩ .nilIface _ _ v1 v2).mono ?_
    rintro e u' w'' ⟨rfl, rfl, rfl⟩
    simp [Leaves, settle, results, Tryz.results15, go_sem, v1]
    exact ⟨_, _, ⟨rfl, rfl⟩, ⟨rfl, fault_set g1 hb⟩, setErr (own_below K2 k2) _⟩
  | ok v =>
    obtain ⟨a, q⟩ := v
    have HE : Hid (∀ {w rb tb}, RdAt w rb tb l → Calls Tryz.prog 45 #[.pointer (some ⟨rb, 0, none⟩)] w (MovesCame rb tb w (.ok (a, q)))) := fun {w rb tb} hR => by have := moves_any hE hR hlen; rw [hP] at this; exact this
    clear hP hE
    cases q with
    | nil =>
      go_enter_defers Tryz.func15, Tryz.ntmps15
      go_wp2_with (first | (go_at_call 22; refine c1.mono ?_; rintro e w1 ⟨rb, tb, rfl, k1, k2, k3, k4⟩) | (go_at_call 45; refine (HE.out k1).mono ?_; rintro e w2 ⟨v, pv, rfl, _, _, _, _, g5, _⟩; exact absurd rfl g5.ne))
    | cons c q =>
      by_cases h13 : c.kind = 13
      · simp only [h13, if_true]
        by_cases hm : 1000 < a.length
        · rw [if_pos hm, List.getElem?_eq_getElem hm]
          simp only [Option.map_some, Option.getD_some]
          go_enter_defers Tryz.func15, Tryz.ntmps15
          go_wp2_with (first | (go_at_call 22; refine c1.mono ?_; rintro e w1 ⟨rb, tb, rfl, k1, k2, k3, k4⟩) | (go_at_call 45; refine (HE.out k1).mono ?_; rintro e w2 ⟨v, pv, rfl, g1, g2, g3, g4, _, g6⟩; obtain ⟨ao, cap, rfl⟩ : ∃ ao cap, v = .slice ao a.length cap := row_shape g2) | (go_at_call 24; refine (end_ok g1 h13).mono ?_; rintro e w3 ⟨rfl, x4⟩; have g2' := x4.row g2 (fun j e => by have := (own_ge g2 e).1; have := k1.lt; omega)) | (go_at_call 46; refine (movesM_many g2' g3.1 hm g6).mono ?_; rintro e w4 ⟨⟨b, rfl, x5, x6⟩, x7⟩))
          have hN : ¬ w.heap.size = rb := by simp only [World.size_alloc] at k2; omega
          have K2 := (((Kept.mono k4 (fun _ _ f => f.elim)).trans g4 (S := fun i => i = rb) (fun _ _ e => e)).trans x4 (fun _ _ e => e)).trans x7 (fun _ _ e => e.elim)
          obtain ⟨v1, v2, v3⟩ := errvar K2 hN
          have hb : w.heap.size < b := by have h1 := k4.size; have h2 := g4.size; have h3 := x4.size; simp only [World.size_alloc] at h1; omega
          refine leaves_cons (f := 44) (args := #[.pointer (some ⟨w.heap.size, 0, none⟩)]) (by simp) (by simp [go_sem]) ?_
          refine (catch_fault_Moves ⟨w.heap.size, 0, none⟩ .nilIface _ _ v1 v2).mono ?_
          rintro e u' w'' ⟨rfl, rfl, rfl⟩
          simp [Leaves, settle, results, Tryz.results15, go_sem, v1]
          exact ⟨_, _, ⟨rfl, rfl⟩, ⟨rfl, fault_set x6 hb⟩, setErr (own_below K2 k2) _⟩
        · rw [if_neg hm]
          go_enter_defers Tryz.func15, Tryz.ntmps15
          go_wp2_with (first | (go_at_call 22; refine c1.mono ?_; rintro e w1 ⟨rb, tb, rfl, k1, k2, k3, k4⟩) | (go_at_call 45; refine (HE.out k1).mono ?_; rintro e w2 ⟨v, pv, rfl, g1, g2, g3, g4, _, g6⟩; obtain ⟨ao, cap, rfl⟩ : ∃ ao cap, v = .slice ao a.length cap := row_shape g2) | (go_at_call 24; refine (end_ok g1 h13).mono ?_; rintro e w3 ⟨rfl, x4⟩; have g2' := x4.row g2 (fun j e => by have := (own_ge g2 e).1; have := k1.lt; omega)) | (go_at_call 46; refine (movesM_few g2' g3.1 (by omega) (fun i hi => by obtain ⟨ao, cap, e⟩ := row_shape (g3.2 i (by rw [← g3.1]; exact hi) hi).1; exact ⟨_, _, _, e⟩)).mono ?_; rintro e w4 ⟨g, rfl, x5, x7⟩; have hN : ¬ w.heap.size = rb := (by simp only [World.size_alloc] at k2; omega); have K3 := (((Kept.mono k4 (fun _ _ f => f.elim)).trans g4 (S := fun i => i = rb) (fun _ _ e => e)).trans x4 (fun _ _ e => e)).trans x7 (fun _ _ e => e.elim); obtain ⟨v1, v2, v3⟩ := errvar K3 hN))
          obtain ⟨u1, u2⟩ := setTwice .nilIface v1 v2
          refine leaves_cons (f := 44) (args := #[.pointer (some ⟨w.heap.size, 0, none⟩)]) (by simp) (by simp [go_sem]) ?_
          refine (catch_idle_Moves ⟨w.heap.size, 0, none⟩ .nilIface _ u1 u2).mono ?_
          rintro e u' w'' ⟨rfl, rfl, rfl⟩
          simp [Leaves, settle, results, Tryz.results15, go_sem, u1]
          have hK := own_below K3 k2
          have hk2 := Kept.setCell (p := ⟨w.heap.size, 0, none⟩) (Kept.setCell (p := ⟨w.heap.size, 0, none⟩) (Kept.refl (fun i => i = w.heap.size) w4) (fun _ => rfl) .nilIface) (fun _ => rfl) .nilIface
          have s1 := k4.size
          have s2 := g4.size
          have s3 := x4.size
          simp only [World.size_alloc] at s1
          refine ⟨_, _, ⟨rfl, rfl⟩, ⟨?_, rfl⟩, setErr (setErr hK _) _⟩
          have hM : MovesAt (w.heap.size + 1) w4 (.slice (some ⟨g, 0, none⟩) a.length a.length) (a.map (fun x => x.2)) := by
            refine ⟨pv, ?_, by rw [List.length_map]; exact g3.1, fun i h1 h2 => ?_⟩
            · rw [← mv2_mo, List.length_map]; exact row_mono x5 (by omega)
            · rw [List.length_map] at h1
              obtain ⟨y1, y2⟩ := g3.2 i h1 h2
              simp only [List.getElem_map]
              refine ⟨row_mono (x7.row (x4.row y1 (fun j e => by have := (own_ge y1 e).1; have := k1.lt; omega)) (fun _ _ f => f)) (by omega), fun k e => ⟨fun e' => ?_, (y2 k e).2⟩⟩
              have h5 := (own_ge y1 e).2
              have h6 := (own_ge x5 e').1
              omega
          obtain ⟨pv', z1, z2, z3⟩ := hM.same hk2 (fun i hi e => by omega)
          exact ⟨pv', row_mono z1 (by omega), z2, fun i h1 h2 => ⟨row_mono (z3 i h1 h2).1 (by omega), (z3 i h1 h2).2⟩⟩
      · simp only [h13, if_false]
        go_enter_defers Tryz.func15, Tryz.ntmps15
        go_wp2_with (first | (go_at_call 22; refine c1.mono ?_; rintro e w1 ⟨rb, tb, rfl, k1, k2, k3, k4⟩) | (go_at_call 45; refine (HE.out k1).mono ?_; rintro e w2 ⟨v, pv, rfl, g1, g2, g3, g4, _, g6⟩) | (go_at_call 24; refine (end_bad g1 h13).mono ?_; rintro e w3 ⟨⟨b, rfl, x4, x5⟩, x6⟩))
        have hN : ¬ w.heap.size = rb := by simp only [World.size_alloc] at k2; omega
        have K2 := ((Kept.mono k4 (fun _ _ f => f.elim)).trans g4 (S := fun i => i = rb) (fun _ _ e => e)).trans x6 (fun _ _ e => e.elim)
        obtain ⟨v1, v2, v3⟩ := errvar K2 hN
        have hb : w.heap.size < b := by have h1 := k4.size; have h2 := g4.size; simp only [World.size_alloc] at h1; omega
        refine leaves_cons (f := 44) (args := #[.pointer (some ⟨w.heap.size, 0, none⟩)]) (by simp) (by simp [go_sem]) ?_
        refine (catch_fault_Moves ⟨w.heap.size, 0, none⟩ .nilIface _ _ v1 v2).mono ?_
        rintro e u' w'' ⟨rfl, rfl, rfl⟩
        simp [Leaves, settle, results, Tryz.results15, go_sem, v1]
        exact ⟨_, _, ⟨rfl, rfl⟩, ⟨rfl, fault_set x5 hb⟩, setErr (own_below K2 k2) _⟩
end Go.Proofs.YtbjfpfnfbgncnaaGreatDoor
/- The walks of how paths and moves of small numbers are written. -/
namespace Go.Proofs.YtbjfpfnfbgncnaaGreatDoor
open Go.RowKit
set_option linter.unusedVariables false
set_option maxRecDepth 100000
/-- Texts with a sign between. -/
def joinT (sg : List UInt8) : List (List UInt8) → List UInt8
  | [] => []
  | x :: r => x ++ r.flatMap (fun y => sg ++ y)
theorem joinT_snoc (sg : List UInt8) (l : List (List UInt8)) (x : List UInt8) : joinT sg (l ++ [x]) = joinT sg l ++ (if l.length = 0 then [] else sg) ++ x := by
  cases l with
  | nil => simp [joinT]
  | cons y r => simp [joinT]
def pathT (p : List Nat) : List UInt8 := if p = [] then [42] else joinT [46] (p.map Lib.decDigits)
theorem WrB.wrote {base b : Nat} {l : List UInt8} {w w' : World} (h : Wrote base b w w') : w.heap.size ≤ w'.heap.size := h.size
theorem row_wrote {base b B : Nat} {w w' : World} {v : Value} {n : Nat} {xs : List Value} (hw : Wrote base b w w') (hr : w.ownsRow B 3 1 v n xs) (hlt : ∀ k, v.ownBlock = some k → k < base) : w'.ownsRow B 3 1 v n xs := hw.row hr (fun k e h => by have := hlt k e; omega)
set_option maxHeartbeats 4000000 in
theorem wpath {base b B : Nat} {l : List UInt8} {w : World} (h : WrB base b l w) {v : Value} {p : List Nat} (hr : w.ownsRow B 3 1 v p.length (intV p)) (hv : ∀ k, v.ownBlock = some k → k < base) (hp : ∀ n ∈ p, n < 100) (hlen : l.length + p.length * 3 ≤ 1000000) (hBw : base ≤ w.heap.size) :
    Calls Tryz.prog 76 #[.pointer (some ⟨b, 0, none⟩), v] w fun e w' => e = .returned (.tuple #[]) ∧ WrB base b (l ++ pathT p) w' ∧ Wrote base b w w' := by
  obtain ⟨ao, cap, rfl⟩ : ∃ ao cap, v = .slice ao p.length cap := row_shape hr
  by_cases h0 : p = []
  · subst h0
    have cW := wwrite_any h ⟨#[42]⟩ (by have h1 : (⟨#[42]⟩ : ByteArray).size = 1 := rfl; simp at hlen; omega) hBw
    simp only [pathT, if_true]
    clear h hr
    go_enter Tryz.func76, Tryz.ntmps76
    go_wp2_with (first | (go_at_call 63; refine cW.mono ?_; rintro e w1 ⟨rfl, h1, h2⟩))
    go_loopw [15] (fun x wr => x = .int .i64 0 ∧ wr = w1) (fun x _ => 1)
    case atStart => exact ⟨rfl, rfl⟩
    case round =>
      obtain ⟨rfl, rfl⟩ := hrel
      go_wp2_with fail
      go_end0
      exact ⟨rfl, h1, h2⟩
  · have hpl : 0 < p.length := List.length_pos_iff.2 h0
    have hne : ((p.length : Int) == 0) = false := by simp; omega
    have hT : pathT p = joinT [46] (p.map Lib.decDigits) := by simp [pathT, h0]
    have HT : Hid (pathT p = joinT [46] (p.map Lib.decDigits)) := hT
    have HR : Hid (w.ownsRow B 3 1 (.slice ao p.length cap) p.length (intV p)) := hr
    have HP : Hid (∀ n ∈ p, n < 100) := hp
    have HV : Hid (∀ k, (Value.slice ao p.length cap).ownBlock = some k → k < base) := hv
    have HB : Hid (WrB base b l w) := h
    clear h hr hp hT h0 hv
    go_enter Tryz.func76, Tryz.ntmps76
    go_wp2_with fail
    go_loopw [15] (fun x wr => ∃ k : Nat, x = .int .i64 (k : Int) ∧ k ≤ p.length ∧ WrB base b (l ++ joinT [46] ((p.take k).map Lib.decDigits)) wr ∧ Wrote base b w wr ∧ (joinT [46] ((p.take k).map Lib.decDigits)).length ≤ k * 3) (fun x _ => p.length - (intOf x).toNat)
    case atStart => exact ⟨0, rfl, Nat.zero_le _, by simpa [joinT] using HB.out, Wrote.refl _ _ _, by simp [joinT]⟩
    case round =>
      obtain ⟨k, rfl, hk, hW, hK, hL⟩ := hrel
      by_cases hlt : k < p.length
      · have hr := row_wrote hK HR.out HV.out
        obtain ⟨g, cap', hv, hb, hgl⟩ := hr.form (by omega)
        obtain ⟨rfl, _, rfl⟩ : ao = some ⟨g, 0, none⟩ ∧ p.length = p.length ∧ cap = cap' := by simpa using hv
        have q := hr.cellAt k (by omega)
        have hq : (intV p)[k]? = some (.int .i64 (p[k] : Int)) := by simp [intV, hlt]
        rw [hq] at q
        have hn := HP.out p[k] (List.getElem_mem hlt)
        obtain ⟨n, hnn⟩ : ∃ n, n = p[k] := ⟨_, rfl⟩
        have hsz := hK.size
        have cB := wbetween hW k ⟨#[46]⟩ (by decide) (by rw [List.length_append]; omega) (by omega)
        have hs1 : (if k = 0 then ([] : List UInt8) else [46]).length ≤ 1 := by split <;> simp
        have cN : Hid (∀ w1, WrB base b (l ++ joinT [46] ((p.take k).map Lib.decDigits) ++ (if k = 0 then [] else [46])) w1 → base ≤ w1.heap.size → Calls Tryz.prog 64 #[.pointer (some ⟨b, 0, none⟩), .int .i64 (n : Int)] w1 fun e w' => e = .returned (.tuple #[]) ∧ WrB base b (l ++ joinT [46] ((p.take (k + 1)).map Lib.decDigits)) w' ∧ Wrote base b w1 w') := by
          intro w1 h1 h2
          have := wnumber_small h1 n (by rw [hnn]; exact hn) (by rw [List.length_append, List.length_append]; omega) h2
          have e1 : joinT [46] ((p.take (k + 1)).map Lib.decDigits) = joinT [46] ((p.take k).map Lib.decDigits) ++ (if k = 0 then [] else [46]) ++ Lib.decDigits n := by
            rw [List.take_succ_eq_append_getElem hlt, List.map_append, List.map_cons, List.map_nil, joinT_snoc, ← hnn]
            have : (List.map Lib.decDigits (p.take k)).length = k := by simp; omega
            rw [this]
          rw [e1, ← List.append_assoc, ← List.append_assoc]; exact this
        have HL2 : Hid ((joinT [46] ((p.take (k + 1)).map Lib.decDigits)).length ≤ (k + 1) * 3) := by
          have hd := dec_len (u := p[k]) (k := 1) (by omega)
          show _ ≤ _
          rw [List.take_succ_eq_append_getElem hlt, List.map_append, List.map_cons, List.map_nil, joinT_snoc]
          simp only [List.length_append]
          have : (List.map Lib.decDigits (p.take k)).length = k := by simp; omega
          rw [this]
          omega
        have d1 : (k : Int) < (p.length : Int) := by omega
        rw [← hnn] at q
        clear hr hv hq hnn hW hL hs1
        go_wp2_with (first | (go_at_call 65; refine cB.mono ?_; rintro e w1 ⟨rfl, h1, h2⟩) | (go_at_call 64; refine (cN.out _ h1 (by have := h2.size; omega)).mono ?_; rintro e w2 ⟨rfl, h3, h4⟩))
        go_roundw
        case rel => exact ⟨k + 1, by go_num, by omega, h3, (hK.trans h2).trans h4, HL2.out⟩
        case measure => simp [intOf]; omega
      · obtain rfl : k = p.length := by omega
        have d1 : ¬ ((p.length : Int) < (p.length : Int)) := by omega
        have HW : Hid (WrB base b (l ++ pathT p) wr) := by rw [List.take_length] at hW; show WrB _ _ _ _; rw [HT.out]; exact hW
        clear hW hL
        go_wp2_with fail
        go_end0
        exact ⟨rfl, HW.out, hK⟩
end Go.Proofs.YtbjfpfnfbgncnaaGreatDoor
