import Derived.Test.YtbjfpfnfbgncnaaGreatDoorM18
import Derived.Deep.RegionLaw
import Derived.Deep.DeepCutAuto
/- The walk of the reader's path. -/
namespace Go.Proofs.YtbjfpfnfbgncnaaGreatDoor
open Go.RowKit
set_option linter.unusedVariables false
set_option maxRecDepth 100000
def oneN (ts : List Tok) (a : List Nat) : Except Nat (List Nat × List Tok) := match numberF ts with
  | .error p => .error p
  | .ok (v, r) => .ok (a ++ [v], r)
def intV (l : List Nat) : List Value := l.map (fun (n : Nat) => Value.int .i64 (n : Int))
theorem intV_snoc (l : List Nat) (n : Nat) : intV (l ++ [n]) = intV l ++ [.int .i64 (n : Int)] := by simp [intV]
theorem row_dots (m : Nat) : ∀ (r : List Tok) (a : List Nat), r.length ≤ m → rowC oneN 10 m a r = (dotsF r).map (fun v => (a ++ v.1, v.2)) := by
  induction m using Nat.strongRecOn with
  | _ m ih =>
    intro r a hl
    cases r with
    | nil => simp [rowC, dotsF, Except.map]
    | cons d r =>
      cases r with
      | nil =>
        by_cases hd : d.kind = 10
        · cases m with
          | zero => simp at hl
          | succ m => simp [rowC, dotsF, hd, rowR, oneN, numberF, Except.map]
        · simp [rowC, dotsF, hd, Except.map]
      | cons t q =>
        by_cases hd : d.kind = 10
        · simp only [List.length_cons] at hl
          obtain ⟨m, rfl⟩ : ∃ k, m = k + 2 := ⟨m - 2, by omega⟩
          by_cases ht : t.kind = 3
          · have e1 : oneN (t :: q) a = .ok (a ++ [valL t.text], q) := by simp [oneN, numberF, ht]
            have h1 := ih (m + 1) (by omega) q (a ++ [valL t.text]) (by omega)
            simp only [rowC, hd, if_true]
            rw [rowR_ok e1, h1]
            simp only [dotsF, hd, ht, if_true]
            cases dotsF q <;> simp [Except.map]
          · have e1 : oneN (t :: q) a = .error t.at' := by simp [oneN, numberF, ht]
            simp only [rowC, hd, if_true]
            rw [rowR_error e1]
            simp [dotsF, hd, ht, Except.map]
        · simp [rowC, dotsF, hd, Except.map]
/-- What the path's function value keeps. -/
def PathA (w0 : World) (rb tb rv vb : Nat) (a : List Nat) (wc : World) : Prop := ∃ lv, Col 23 3 1 w0 rb tb rv vb a.length (intV a) wc lv
set_option maxHeartbeats 2000000 in
theorem path1_reads {w0 : World} {rb tb rv vb F B : Nat} (hB : B ≤ 50000) : Reads List.length F B w0.heap.size rb tb 95 #[.pointer (some ⟨vb, 0, none⟩), .pointer (some ⟨rv, 0, none⟩)] oneN (PathA w0 rb tb rv vb) (fun w' => Kept (fun i => i = rb ∨ i = vb) w0 w') := by
  rintro ts a wc hE hF hz hR ⟨lv, C⟩
  cases ts with
  | nil => exact absurd rfl hE.ne
  | cons t r =>
    obtain ⟨s0, s1, f1⟩ := C.cells
    have hrow := C.row
    obtain ⟨ao, cap, rfl⟩ : ∃ ao cap, lv = .slice ao a.length cap := row_shape hrow
    have hw0 := C.kept.size
    have HC : Hid (Col 23 3 1 w0 rb tb rv vb a.length (intV a) wc (.slice ao a.length cap)) := C
    have hz1 : a.length ≤ 100000 := by simp at hz; omega
    by_cases hk : t.kind = 3
    · have e1 : oneN (t :: r) a = .ok (a ++ [valL t.text], r) := by simp [oneN, numberF, hk]
      rw [e1]
      have cN : Calls Tryz.prog 75 #[.pointer (some ⟨rb, 0, none⟩)] wc.drew fun e w6 => e = .returned (.int .i64 (valL t.text : Int)) ∧ RdAt w6 rb tb r ∧ Col 23 3 1 w0 rb tb rv vb a.length (intV a) w6 (.slice ao a.length cap) := by
        have k1 : Same0 wc wc.drew := Kept.drew (Kept.refl _ wc)
        refine (number_ok (hR.same k1) hE.ok hk).mono ?_
        rintro e w6 ⟨rfl, a1, a2⟩
        exact ⟨rfl, a1, (C.same k1).rd a2⟩
      have HZ : Hid (a.length + (t :: r).length ≤ B) := hz
      have HE : Hid (EndsT r) := hE.next (by omega)
      clear hE hR hk e1 C hz
      go_enter Tryz.func95, Tryz.ntmps95
      go_region_law (first | (refine step_elem (by rfl) _ _ 23 3 _ 1 8 Tryz.underlying23 info_int (by rfl) (by omega) (by omega) (by rfl) w0.heap.size a.length (intV a) (.slice ao a.length cap) (by rfl) (World.ownsRow.alloc g1.row _) w6.heap.size #[.int .i64 (valL t.text : Int)] (heap_alloc_new w6 _) rfl (by rfl) (by simp [Value.oneCell']) (by omega) (by have := g1.kept.size; simp only [World.size_alloc]; omega) ?_; intro g gcap w7 hr7 hk7 hat7; obtain ⟨C8, R8⟩ := g1.more g0 hr7 hk7 hat7; have f1'' := (frozenAt (hk7.behind.at g1.l0 (fun e => by have := (own_ge g1.row e).1; have := g1.lt; omega)) 0); have s1'' := (cellAt (hk7.behind.at g1.l0 (fun e => by have := (own_ge g1.row e).1; have := g1.lt; omega)) 0); simp only [List.getElem?_toArray, List.getElem?_cons_zero] at s1'') | (refine step_call rfl cN (by simp [go_sem]) (v := .int .i64 (valL t.text : Int)) ?_; rintro e w6 ⟨rfl, g0, g1⟩; refine ⟨rfl, ?_⟩; obtain ⟨s0', s1', f1'⟩ := g1.cells; obtain ⟨s0b, s1b, f1b⟩ := (g1.same (Kept.alloc (Kept.refl _ w6) (.cells #[.int .i64 (valL t.text : Int)] 3))).cells))
      all_goals
        go_wp2_with fail
        go_end0
        have hzz := HZ.out
        refine ⟨rfl, R8, ⟨.slice (some ⟨g, 0, none⟩) (a.length + 1) gcap, ?_⟩, HE.out, by simp, by simp at hzz ⊢; omega⟩
        rw [intV_snoc, List.length_append]
        exact C8
    · have e1 : oneN (t :: r) a = .error t.at' := by simp [oneN, numberF, hk]
      rw [e1]
      have cN : Calls Tryz.prog 75 #[.pointer (some ⟨rb, 0, none⟩)] wc.drew fun e w6 => GaveUp w0.heap.size w6 e 41 t.at' ∧ Kept (fun i => i = rb ∨ i = vb) w0 w6 := by
        have k1 : Same0 wc wc.drew := Kept.drew (Kept.refl _ wc)
        refine (number_bad (hR.same k1) hk).mono ?_
        rintro e w6 ⟨a1, a2⟩
        exact ⟨a1.mono hw0, C.kept.trans (k1.trans' a2) (fun _ _ f => f.elim)⟩
      clear hE hR hk e1 C hz
      go_enter Tryz.func95, Tryz.ntmps95
      refine wp_region_held (S := fun w' => w'.cell? ⟨rv, 0, none⟩ = some (.pointer (some ⟨rb, 0, none⟩)) ∧ w'.cell? ⟨vb, 0, none⟩ = some (.slice ao a.length cap)) (by kernel_rfl) ?_
      refine wpAnyH_take (i := 0) (v := .slice ao a.length cap) rfl (by kernel_rfl) (by kernel_rfl) (by kernel_rfl) (fun _ _ _ h => h) (.inl ⟨rfl, fun w' hS => ?_⟩) ⟨s0, s1⟩ ?_
      · simp [go_sem, hS.2]
      refine wpAnyH_take (i := 1) (v := .pointer (some ⟨rb, 0, none⟩)) rfl (by kernel_rfl) (by kernel_rfl) (by kernel_rfl) (fun _ _ _ h => h) (.inl ⟨rfl, fun w' hS => ?_⟩) ⟨s0, s1⟩ ?_
      · simp [go_sem, hS.1]
      refine wpAnyH_all (rs := [2]) (by kernel_rfl) (by simp) (fun i hi => ?_)
      obtain rfl := List.mem_singleton.1 hi
      simp [wpOp, go_sem]
      refine .inl (cN.mono ?_)
      rintro e w6 ⟨⟨b, rfl, g0, g1⟩, k6⟩
      exact ⟨rfl, ⟨b, rfl, g0, g1⟩, k6⟩
/-- What a path's reading comes to. -/
def PathCame (base rb tb : Nat) (w : World) (ts : List Tok) (R : Except Nat (List Nat × List Tok)) (e : Ending) (w' : World) : Prop := match R with
  | .ok (p, r) => ∃ v, e = .returned v ∧ RdAt w' rb tb r ∧ w'.ownsRow w.heap.size 3 1 v p.length (intV p) ∧ Kept (fun i => i = rb) w w' ∧ EndsT r ∧ r.length < ts.length ∧ p.length + r.length ≤ ts.length
  | .error p => GaveUp w.heap.size w' e 41 p ∧ Kept (fun i => i = rb) w w'
set_option maxHeartbeats 2000000 in
theorem path_any {w : World} {rb tb : Nat} {ts : List Tok} (hE : EndsT ts) (hR : RdAt w rb tb ts) (hz : ts.length ≤ 50000) : Calls Tryz.prog 74 #[.pointer (some ⟨rb, 0, none⟩)] w (PathCame w.heap.size rb tb w ts (pathF ts)) := by
  cases ts with
  | nil => exact absurd rfl hE.ne
  | cons t r =>
    have k0 : ∀ o, Same0 w (w.alloc o) := fun o => Kept.alloc (Kept.refl _ w) o
    by_cases h12 : t.kind = 12
    · have e1 : pathF (t :: r) = .ok ([], r) := by simp [pathF, h12]
      rw [e1]
      have c1 := skip_yes (hR.same (k0 (.cells #[.pointer (some ⟨rb, 0, none⟩)] 59))) 12 h12
      have HE : Hid (EndsT r) := hE.next (by omega)
      clear hE hR h12 e1
      go_enter Tryz.func74, Tryz.ntmps74
      go_wp2_with (first | (go_at_call 53; refine c1.mono ?_; rintro e w1 ⟨rfl, k1, k2⟩))
      go_ret
      exact ⟨_, rfl, k1, ⟨rfl, .inl ⟨rfl, rfl⟩⟩, k2.behind, HE.out, by simp, by simp⟩
    · obtain ⟨m, hm⟩ : ∃ m, m = r.length := ⟨_, rfl⟩
      have e1 : pathF (t :: r) = rowR oneN 10 (m + 1) (t :: r) [] := by
        by_cases h3 : t.kind = 3
        · have e2 : oneN (t :: r) [] = .ok ([valL t.text], r) := by simp [oneN, numberF, h3]
          rw [rowR_ok e2, row_dots m r _ (by omega)]
          simp only [pathF]
          rw [if_neg h12, if_pos h3]
          rfl
        · have e2 : oneN (t :: r) [] = .error t.at' := by simp [oneN, numberF, h3]
          rw [rowR_error e2]
          simp only [pathF]
          rw [if_neg h12, if_neg h3]
      rw [e1]
      have c1 := skip_no (hR.same (k0 (.cells #[.pointer (some ⟨rb, 0, none⟩)] 59))) 12 h12
      have hlt := hR.lt
      have c2 : Calls Tryz.prog 54 #[.pointer (some ⟨rb, 0, none⟩), .int .i64 10, .func (.func 95) #[] #[.pointer (some ⟨w.heap.size + 1, 0, none⟩), .pointer (some ⟨w.heap.size, 0, none⟩)]] ((w.alloc (.cells #[.pointer (some ⟨rb, 0, none⟩)] 59)).alloc (.cells #[.slice none 0 0] 23)) fun e w2 => match rowR oneN 10 (m + 1) (t :: r) [] with
          | .ok (p, q) => e = .returned (.tuple #[]) ∧ ∃ lv, w2.cell? ⟨w.heap.size + 1, 0, none⟩ = some lv ∧ Hid (RdAt w2 rb tb q ∧ w2.ownsRow w.heap.size 3 1 lv p.length (intV p) ∧ Kept (fun i => i = rb) w w2 ∧ EndsT q ∧ q.length < (t :: r).length ∧ p.length + q.length ≤ (t :: r).length)
          | .error p => GaveUp w.heap.size w2 e 41 p ∧ Kept (fun i => i = rb) w w2 := by
        obtain ⟨w0, hw0⟩ : ∃ w0, ((w.alloc (.cells #[.pointer (some ⟨rb, 0, none⟩)] 59)).alloc (.cells #[.slice none 0 0] 23)) = w0 := ⟨_, rfl⟩
        have hsz : w0.heap.size = w.heap.size + 2 := by rw [← hw0]; simp only [World.size_alloc]
        have K0 : Same0 w w0 := by rw [← hw0]; exact Kept.alloc (Kept.alloc (Kept.refl _ w) _) _
        have C0 : Col 23 3 1 w0 rb tb w.heap.size (w.heap.size + 1) 0 (intV []) w0 (.slice none 0 0) := by
          refine ⟨?_, ?_, ⟨rfl, .inl ⟨rfl, rfl⟩⟩, Kept.refl _ _, ⟨by omega, by omega, by omega, by omega⟩, ⟨by omega, by omega, by omega, by omega, by omega⟩⟩
          · rw [← hw0]; exact Kept.at (Kept.alloc (Kept.refl (fun _ => False) _) _) (heap_alloc_new w _) (fun f => f)
          · rw [← hw0]; exact alloc_at1 w _ _
        rw [hw0]
        have hl : (t :: r).length = m + 1 := by rw [hm]; rfl
        have c := row_any (sign := 10) (F := m + 1) (a := ([] : List Nat)) (enters_of Tryz.func95 (by kernel_rfl) rfl) (path1_reads (w0 := w0) (rb := rb) (tb := tb) (rv := w.heap.size) (vb := w.heap.size + 1) (B := (t :: r).length) hz) (fun a x y ⟨lv, p⟩ k => ⟨lv, p.rd k⟩) (by omega) m (by omega) hE (by omega) (by simp) (hR.same K0) ⟨_, C0⟩
        have hup : ∀ {w2 : World}, Kept (fun i => i = rb ∨ i = w.heap.size + 1) w0 w2 → Kept (fun i => i = rb) w w2 := fun k => (Kept.mono K0 (fun _ _ f => f.elim)).trans k (fun i hi e => e.elim id (fun e => by omega))
        refine c.mono ?_
        intro e w2 h
        cases hX : rowR oneN 10 (m + 1) (t :: r) [] with
        | error p =>
          rw [hX] at h
          exact ⟨h.1.mono (by omega), hup h.2⟩
        | ok v =>
          obtain ⟨p, q⟩ := v
          rw [hX] at h
          obtain ⟨rfl, h1, ⟨lv, C2⟩, h3, h4, h5⟩ := h
          exact ⟨rfl, lv, C2.cells.2.1, h1, row_mono C2.row (by omega), hup C2.kept, h3, h4, h5⟩
      have hmf : ∀ (fn : Fn) (first cap : Array Value) (w : World), (Instr.makeFunc fn first cap).run Tryz.prog w = .ok (.func fn first cap) w := fun _ _ _ _ => rfl
      clear hE hR h12 e1 hlt
      cases hX : rowR oneN 10 (m + 1) (t :: r) [] with
      | error p =>
        rw [hX] at c2
        clear hX
        go_enter Tryz.func74, Tryz.ntmps74
        go_wp2_with (first | (go_at_call 53; refine c1.mono ?_; rintro e w1 ⟨rfl, rfl⟩) | (go_at_call 54; refine c2.mono ?_; rintro e w2 ⟨⟨b, rfl, g0, g1⟩, k6⟩))
        exact ⟨rfl, ⟨b, rfl, g0, g1⟩, k6⟩
      | ok v =>
        obtain ⟨p, q⟩ := v
        rw [hX] at c2
        clear hX
        go_enter Tryz.func74, Tryz.ntmps74
        go_wp2_with (first | (go_at_call 53; refine c1.mono ?_; rintro e w1 ⟨rfl, rfl⟩) | (go_at_call 54; refine c2.mono ?_; rintro e w2 ⟨rfl, lv, s1, HP⟩))
        go_ret
        obtain ⟨p1, p2, p3, p4, p5, p6⟩ := HP.out
        exact ⟨_, rfl, p1, p2, p3, p4, p5, p6⟩
end Go.Proofs.YtbjfpfnfbgncnaaGreatDoor
/- The walk of what reads one move. -/
namespace Go.Proofs.YtbjfpfnfbgncnaaGreatDoor
open Go.RowKit
set_option linter.unusedVariables false
set_option maxRecDepth 100000
abbrev Mv := Nat × List Nat × Nat
def headAt (ts : List Tok) : Nat := (ts.head?.map (fun x => x.at')).getD 0
def oneM (ts : List Tok) (a : List Mv) : Except Nat (List Mv × List Tok) := match pathF ts with
  | .error p => .error p
  | .ok (_, []) => .error 0
  | .ok (p, [c]) => if c.kind = 11 then .error 0 else .error c.at'
  | .ok (p, c :: m :: r) => if c.kind = 11 then (if m.kind = 3 then .ok (a ++ [(headAt ts, p, valL m.text)], r) else .error m.at') else .error c.at'
theorem row_moves (n : Nat) : ∀ (ts : List Tok) (a : List Mv), rowR oneM 6 n ts a = (movesF n ts).map (fun v => (a ++ v.1, v.2)) := by
  induction n with
  | zero => intro ts a; rfl
  | succ n ih =>
    intro ts a
    cases hP : pathF ts with
    | error p => simp [rowR, oneM, movesF, hP, Except.map]
    | ok v =>
      obtain ⟨p, q⟩ := v
      cases q with
      | nil => simp [rowR, oneM, movesF, hP, Except.map]
      | cons c q =>
        cases q with
        | nil =>
          by_cases hc : c.kind = 11
          · simp [rowR, oneM, movesF, hP, hc, Except.map]
          · simp [rowR, oneM, movesF, hP, hc, Except.map]
        | cons m r =>
          by_cases hc : c.kind = 11
          · by_cases hm : m.kind = 3
            · have e1 : oneM ts a = .ok (a ++ [(headAt ts, p, valL m.text)], r) := by simp [oneM, hP, hc, hm]
              rw [rowR_ok e1]
              cases r with
              | nil => simp [rowC, movesF, hP, hc, hm, Except.map, headAt]
              | cons k q =>
                by_cases hk : k.kind = 6
                · simp only [rowC, hk, if_true]
                  rw [ih]
                  simp only [movesF, hP, hc, hm, hk, if_true]
                  cases movesF n q <;> simp [Except.map, headAt]
                · simp [rowC, movesF, hP, hc, hm, hk, Except.map, headAt]
            · simp [rowR, oneM, movesF, hP, hc, hm, Except.map]
          · simp [rowR, oneM, movesF, hP, hc, Except.map]
/-- The cells of moves that were read, their paths' slices given. -/
def mvCells : List Mv → List Value → List Value
  | x :: a, v :: pv => .int .i64 (x.1 : Int) :: v :: .int .i64 (x.2.2 : Int) :: mvCells a pv
  | _, _ => []
theorem mvCells_snoc : ∀ (a : List Mv) (pv : List Value) (x : Mv) (v : Value), pv.length = a.length → mvCells (a ++ [x]) (pv ++ [v]) = mvCells a pv ++ [.int .i64 (x.1 : Int), v, .int .i64 (x.2.2 : Int)] := by
  intro a
  induction a with
  | nil => intro pv x v h; have : pv = [] := List.eq_nil_of_length_eq_zero h; subst this; rfl
  | cons y a ih =>
    intro pv x v h
    cases pv with
    | nil => simp at h
    | cons u pv =>
      simp only [List.cons_append, mvCells]
      rw [ih pv x v (by simpa using h)]
/-- The paths of moves lie in memory, each by itself. -/
def Paths (base : Nat) (w : World) (a : List Mv) (pv : List Value) (lo : Option Nat) : Prop := pv.length = a.length ∧ ∀ i (h : i < a.length) (h' : i < pv.length), w.ownsRow base 3 1 pv[i] a[i].2.1.length (intV a[i].2.1) ∧
  ∀ k, pv[i].ownBlock = some k → lo ≠ some k ∧ ∀ j (hj : j < pv.length), j ≠ i → pv[j].ownBlock ≠ some k
theorem Paths.kept {base : Nat} {w w' : World} {a : List Mv} {pv : List Value} {lo lo' : Option Nat} {S : Nat → Prop} (h : Paths base w a pv lo) (hk : Kept S w w') (hs : ∀ k, base ≤ k → k < w.heap.size → S k → lo = some k) (hl : ∀ k, k < w.heap.size → lo' = some k → lo = some k) : Paths base w' a pv lo' := by
  refine ⟨h.1, fun i h1 h2 => ?_⟩
  obtain ⟨a1, a2⟩ := h.2 i h1 h2
  refine ⟨hk.row a1 (fun k e s => ?_), fun k e => ⟨fun e' => (a2 k e).1 (hl k (own_ge a1 e).2 e'), (a2 k e).2⟩⟩
  exact (a2 k e).1 (hs k (own_ge a1 e).1 (own_ge a1 e).2 s)
theorem Paths.more {base : Nat} {w : World} {a : List Mv} {pv : List Value} {lo : Option Nat} {n : Nat} {x : Mv} {v : Value} (h : Paths base w a pv lo) (hn : ∀ i (h' : i < pv.length) k, pv[i].ownBlock = some k → k < n) (hb : base ≤ n) (hlo : ∀ k, lo = some k → k < n) (hv : w.ownsRow n 3 1 v x.2.1.length (intV x.2.1)) : Paths base w (a ++ [x]) (pv ++ [v]) lo := by
  have hpl := h.1
  refine ⟨by simp [h.1], fun i h1 h2 => ?_⟩
  have h1' : i < a.length + 1 := by simpa using h1
  by_cases hi : i < a.length
  · have hi' : i < pv.length := by rw [h.1]; exact hi
    rw [List.getElem_append_left hi, List.getElem_append_left hi']
    obtain ⟨a1, a2⟩ := h.2 i hi hi'
    refine ⟨a1, fun k e => ⟨(a2 k e).1, fun j hj hne => ?_⟩⟩
    have hj' : j < pv.length + 1 := by simpa using hj
    by_cases hjl : j < pv.length
    · rw [List.getElem_append_left hjl]; exact (a2 k e).2 j hjl hne
    · rw [List.getElem_append_right (by omega)]
      have : j - pv.length = 0 := by omega
      simp only [this, List.getElem_cons_zero]
      intro e'
      have := (own_ge hv e').1
      have := hn i hi' k e
      omega
  · have : i = a.length := by omega
    subst this
    have e2 : (pv ++ [v])[a.length]'(by simp; omega) = v := by rw [List.getElem_append_right (by omega)]; simp [h.1]
    rw [List.getElem_append_right (Nat.le_refl _), e2]
    simp only [Nat.sub_self, List.getElem_cons_zero]
    refine ⟨row_mono hv hb, fun k e => ⟨fun e' => ?_, fun j hj hne => ?_⟩⟩
    · have := (own_ge hv e).1; have := hlo k e'; omega
    · have hj' : j < pv.length + 1 := by simpa using hj
      rw [List.getElem_append_left (by omega)]
      intro e'
      have := (own_ge hv e).1
      have := hn j (by omega) k e'
      omega
theorem info_move : (Tryz.prog.info? 144).map (fun i => (i.zero, i.size, i.bytes)) = some (some (.agg #[.int .i64 0, .slice none 0 0, .int .i64 0]), 3, 40) := by kernel_rfl
/-- What the moves' function value keeps. -/
def MovesA (w0 : World) (rb tb rv vb : Nat) (a : List Mv) (wc : World) : Prop := ∃ lv pv, Col 99 144 3 w0 rb tb rv vb a.length (mvCells a pv) wc lv ∧ Paths w0.heap.size wc a pv lv.ownBlock
end Go.Proofs.YtbjfpfnfbgncnaaGreatDoor
