import Derived.Test.YthamjjhioafkjaaGreatGCodeViews26
import Derived.Test.YthamjjhioafkjaaGreatGCodeViews13
import Derived.Test.YthamjjhioafkjaaGreatGCodeViews15
namespace Go.Proofs.YthamjjhioafkjaaGreat
set_option maxRecDepth 100000
set_option linter.unusedVariables false
open Go.RowKit
attribute [local go_sem ↓] Go.wp_at_zero Go.wp_at_succ
theorem tvar_any (x : Int) (w : World) : Calls Tryz.prog 67 #[.int .i64 x] w fun e w' => e = .returned (.bool (decide (x < 0))) ∧ w' = w := by
  go_enter Tryz.func67, Tryz.ntmps67
  go_wp2
  go_ret
  exact ⟨rfl, rfl⟩
set_option maxHeartbeats 2000000 in
theorem number_any {w : World} {x : Rw} {ao bo : Option Addr} {ac bc : Nat} (h1 : IntsAt w ao x.2.1) (h2 : IntsAt w bo (ofN x.2.2)) {c : Nat} (hc : c < x.2.2.length) (hp : x.2.2[c] < x.2.1.length) :
    Calls Tryz.prog 135 #[.agg #[.int .i64 x.1,.slice ao x.2.1.length ac,.slice bo x.2.2.length bc],.int .i64 (c : Int)] w fun e w' => e = .returned (.int .i64 (numR x c)) ∧ Same0 w w' := by
  obtain ⟨lb, loff, rfl, _, hl⟩ := h1.get hp
  obtain ⟨pb, poff, rfl, _, hl2⟩ := h2.get (i := c) (by rw [ofN_len]; exact hc)
  have e2 : (ofN x.2.2)[c]'(by rw [ofN_len]; exact hc) = ((x.2.2[c] : Nat) : Int) := by simp [ofN]
  rw [e2] at hl2
  clear e2 h1 h2
  rw [numR_eq hc hp]
  have K : Hid (∀ o, Same0 w (w.alloc o)) := fun o => (Kept.refl _ w).alloc o
  generalize x.2.1[x.2.2[c]] = y at *
  generalize x.2.2[c] = q at *
  generalize x.2.1.length = n1 at *
  generalize x.2.2.length = n2 at *
  generalize x.1 = r at *
  have D1 : ∀ o, (w.alloc o).cell? ⟨lb, loff + q, none⟩ = some (.int .i64 y) := fun o => cell_al hl o
  have D2 : ∀ o, (w.alloc o).cell? ⟨pb, poff + c, none⟩ = some (.int .i64 (q : Int)) := fun o => cell_al hl2 o
  have E1 : ∀ o, (w.alloc o).drew.cell? ⟨lb, loff + q, none⟩ = some (.int .i64 y) := fun o => cell_al hl o
  have E2 : ∀ o, (w.alloc o).drew.cell? ⟨pb, poff + c, none⟩ = some (.int .i64 (q : Int)) := fun o => cell_al hl2 o
  have i1 : (0 : Int) ≤ (c : Int) := by omega
  have i2 : (c : Int) < (n2 : Int) := by omega
  have i3 : (0 : Int) ≤ (q : Int) := by omega
  have i4 : (q : Int) < (n1 : Int) := by omega
  clear hl hl2
  go_enter Tryz.func135, Tryz.ntmps135
  go_wp2
  go_quiet (fail)
  go_wp2
  go_ret
  exact ⟨rfl, (K.out _).drewN _⟩
set_option maxHeartbeats 2000000 in
theorem opens_any {w : World} {x : Rw} {ao bo : Option Addr} {ac bc : Nat} (h1 : IntsAt w ao x.2.1) (h2 : IntsAt w bo (ofN x.2.2)) {c : Nat} (hc : c < x.2.2.length) (hp : x.2.2[c] < x.2.1.length) {cb : Nat} (hcb : w.cell? ⟨cb,0,none⟩ = some (.int .i64 (c : Int))) :
    Calls Tryz.prog 134 #[.agg #[.int .i64 x.1,.slice ao x.2.1.length ac,.slice bo x.2.2.length bc],.pointer (some ⟨cb,0,none⟩)] w fun e w' => e = .returned (.bool (decide (numR x c < 0))) ∧ Same0 w w' := by
  have K : ∀ o, Same0 w (w.alloc o) := fun o => (Kept.refl _ w).alloc o
  have C : ∀ o, Calls Tryz.prog 135 #[.agg #[.int .i64 x.1, .slice ao x.2.1.length ac, .slice bo x.2.2.length bc], .int .i64 (c : Int)] (w.alloc o) fun e w' => e = .returned (.int .i64 (numR x c)) ∧ Same0 w w' := fun o => (number_any (h1.same (K o)) (h2.same (K o)) hc hp).mono (fun e w' h => ⟨h.1, (K o).trans' h.2⟩)
  have D1 : ∀ o, (w.alloc o).cell? ⟨cb, 0, none⟩ = some (.int .i64 (c : Int)) := fun o => cell_al hcb o
  have C2 := tvar_any
  generalize numR x c = z at *
  clear h1 h2 hcb K
  go_enter Tryz.func134, Tryz.ntmps134
  go_wp2_with (first
    | (go_at_call 135; refine (C _).mono ?_; rintro e w1 ⟨rfl, hk⟩)
    | (go_at_call 67; refine (C2 _ _).mono ?_; rintro e w2 ⟨rfl, rfl⟩))
  go_ret
  exact ⟨rfl, hk⟩
def RowsOk (n : Nat) (R : List Rw) : Prop := ∀ x ∈ R, x.2.2.length = n ∧ ∀ p ∈ x.2.2, p < x.2.1.length
set_option maxHeartbeats 4000000 in
theorem indexf_row {w0 : World} {c cb n : Nat} {ro : Option Addr} {rc : Nat} {R : List Rw} (hR : RwAt w0 ro R) (hok : RowsOk n R) (hc : c < n) (hcb : w0.cell? ⟨cb,0,none⟩ = some (.int .i64 (c : Int))) (hm : R.length ≤ 100) :
    Calls Tryz.prog 159 #[.slice ro R.length rc,.func (.func 134) #[] #[.pointer (some ⟨cb,0,none⟩)]] w0 fun e w' => ∃ z : Int,e = .returned (.int .i64 z) ∧ FoundAt z (R.any (fun x => decide (numR x c < 0))) ∧ Same0 w0 w' := by
  have HB := World.block_lt_of_cell? w0 _ hcb
  go_enter Tryz.func159, Tryz.ntmps159
  go_wp2
  go_loopw [8] (fun i wr => ∃ k : Nat, k ≤ R.length ∧ i = .int .i64 (k : Int) ∧ Hid ((R.take k).any (fun x => decide (numR x c < 0)) = false) ∧ Same0 w0 wr) (fun i _ => R.length - (intOf i).toNat)
  case atStart => exact ⟨0, Nat.zero_le _, rfl, by show _ = _; simp, Kept.refl _ _⟩
  case round =>
    obtain ⟨k, hk, rfl, ha, hw⟩ := hrel
    by_cases hlt : k < R.length
    · obtain ⟨b, off, rfl, _, ao, ac, bo, bc, r0, r1, r2, A1, A2⟩ := (hR.same hw).get hlt
      obtain ⟨o1, o2⟩ := hok _ (List.getElem_mem hlt)
      have hc' : c < R[k].2.2.length := by omega
      have C := opens_any (ac := ac) (bc := bc) A1.1.at' A2.1.at' hc' (o2 _ (List.getElem_mem hc')) ((hw.cell (p := ⟨cb, 0, none⟩) HB (fun f => f)).trans hcb)
      have i1 : (0 : Int) ≤ (k : Int) := by omega
      have i2 : (k : Int) < (R.length : Int) := by omega
      have hz : ∀ q : Bool, decide (numR R[k] c < 0) = q → Hid (decide (numR R[k] c < 0) = q) := fun q h => h
      cases hq : decide (numR R[k] c < 0) with
      | true =>
        have H : Hid (FoundAt (k : Int) (R.any (fun x => decide (numR x c < 0)))) := by
          have e1 : R.any (fun x => decide (numR x c < 0)) = true := List.any_eq_true.2 ⟨R[k], List.getElem_mem hlt, hq⟩
          show decide _ = _
          rw [e1]; simp
        rw [hq] at C
        clear hz hq ha hcb hok hR A1 A2 o2 o1
        go_wp2_with (first | (go_at_call 134; refine C.mono ?_; rintro e w2 ⟨rfl, hw2⟩))
        go_ret
        exact ⟨_, rfl, H.out, hw.trans' hw2⟩
      | false =>
        have H : Hid ((R.take (k + 1)).any (fun x => decide (numR x c < 0)) = false) := by
          have e1 := ha.out
          show _ = _
          rw [List.take_add_one, List.getElem?_eq_getElem hlt, List.any_append, e1]
          simpa using hq
        rw [hq] at C
        clear hz hq ha hcb A1 A2 o2 o1
        go_wp2_with (first | (go_at_call 134; refine C.mono ?_; rintro e w2 ⟨rfl, hw2⟩))
        exact ⟨⟨k + 1, by omega, by go_num, H, hw.trans' hw2⟩, by simp [intOf]; omega⟩
    · have H : Hid (FoundAt (-1) (R.any (fun x => decide (numR x c < 0)))) := by
        have := ha.out
        rw [List.take_of_length_le (by omega)] at this
        show decide _ = _
        rw [this]; rfl
      go_wp2
      go_ret
      exact ⟨_, rfl, H.out, hw⟩
set_option maxHeartbeats 1000000 in
theorem containsf_row {w0 : World} {c cb n : Nat} {ro : Option Addr} {rc : Nat} {R : List Rw} (hR : RwAt w0 ro R) (hok : RowsOk n R) (hc : c < n) (hcb : w0.cell? ⟨cb,0,none⟩ = some (.int .i64 (c : Int))) (hm : R.length ≤ 100) :
    Calls Tryz.prog 136 #[.slice ro R.length rc,.func (.func 134) #[] #[.pointer (some ⟨cb,0,none⟩)]] w0 fun e w' => e = .returned (.bool (R.any (fun x => decide (numR x c < 0)))) ∧ Same0 w0 w' := by
  have C := indexf_row (rc := rc) hR hok hc hcb hm
  clear hR hok hcb
  generalize R.any (fun x => decide (numR x c < 0)) = z at *
  go_enter Tryz.func136, Tryz.ntmps136
  go_wp2_with (first | (go_at_call 159; refine C.mono ?_; rintro e w2 ⟨z', rfl, hz, hw2⟩))
  go_ret
  exact ⟨ret_bool (FoundAt.eq hz), hw2⟩
theorem any_con (R : List Rw) (c : Nat) : R.any (fun x => decide (numR x c < 0)) = !conB R c := by
  unfold conB
  induction R with
  | nil => rfl
  | cons x r ih =>
    simp only [List.any_cons, List.all_cons, ih, Bool.not_and]
    congr 1
    by_cases h : numR x c < 0
    · simp [h]
    · simp [h]; omega
def partI (R : List Rw) (n : Nat) : Int := match partN R n with | some c => (c : Int) | none => -1
theorem partN_stays {R : List Rw} {k c : Nat} (h : partN R k = some c) : ∀ m,k ≤ m → partN R m = some c
  | 0, hm => by obtain rfl : k = 0 := by omega
                exact h
  | m + 1, hm => by
    by_cases e : k = m + 1
    · subst e; exact h
    · unfold partN
      rw [partN_stays h m (by omega)]
set_option maxHeartbeats 4000000 in
theorem parting_any {w : World} {bs : Nat} {po ro : Option Addr} {pl pc rc : Nat} {R : List Rw} (hR : RwAt w ro R) (hok : RowsOk pl R) (hm : R.length ≤ 100) (hpl : pl ≤ 4000) :
    Calls Tryz.prog 101 #[.agg #[.pointer (some ⟨bs,0,none⟩),.slice po pl pc,.slice ro R.length rc]] w fun e w' => e = .returned (.int .i64 (partI R pl)) ∧ Same0 w w' := by
  have CC : Hid (∀ ww c, c < pl → Same0 w ww → Calls Tryz.prog 136 #[.slice ro R.length rc, .func (.func 134) #[] #[.pointer (some ⟨ww.heap.size, 0, none⟩)]] (ww.alloc (.cells #[.int .i64 (c : Int)] 3)) fun e w' => e = .returned (.bool (R.any (fun x => decide (numR x c < 0)))) ∧ Same0 (ww.alloc (.cells #[.int .i64 (c : Int)] 3)) w') := fun ww c hc hk => by
    have ka : Same0 ww (ww.alloc (.cells #[.int .i64 (c : Int)] 3)) := (Kept.refl _ _).alloc _
    exact (containsf_row ((hR.same hk).same ka) hok hc (cellAt (heap_alloc_new ww _) 0) hm)
  have K : Same0 w (w.alloc (.cells #[.pointer (some ⟨bs, 0, none⟩), .slice po pl pc, .slice ro R.length rc] 152)) := (Kept.refl _ w).alloc _
  have BX : Hid (∀ ww, Same0 (w.alloc (.cells #[.pointer (some ⟨bs, 0, none⟩), .slice po pl pc, .slice ro R.length rc] 152)) ww → ww.cell? ⟨w.heap.size, 1, none⟩ = some (.slice po pl pc) ∧ ww.cell? ⟨w.heap.size, 2, none⟩ = some (.slice ro R.length rc)) := fun ww hk => ⟨cellAt (hk.at0 (heap_alloc_new w _)) 1, cellAt (hk.at0 (heap_alloc_new w _)) 2⟩
  clear hR hok
  go_enter Tryz.func101, Tryz.ntmps101
  go_wp2
  go_loopw [8] (fun i wr => ∃ k : Nat, k ≤ pl ∧ i = .int .i64 (k : Int) ∧ Hid (partN R k = none) ∧ Same0 (w.alloc (.cells #[.pointer (some ⟨bs, 0, none⟩), .slice po pl pc, .slice ro R.length rc] 152)) wr) (fun i _ => pl - (intOf i).toNat)
  case atStart => exact ⟨0, Nat.zero_le _, rfl, rfl, Kept.refl _ _⟩
  case round =>
    obtain ⟨k, hk, rfl, ha, hw⟩ := hrel
    by_cases hlt : k < pl
    · have C := CC.out wr k hlt (K.trans' hw)
      have ka : Same0 wr (wr.alloc (.cells #[.int .i64 (k : Int)] 3)) := (Kept.refl _ _).alloc _
      obtain ⟨b1, b2⟩ := BX.out _ (hw.trans' ka)
      have i2 : (k : Int) < (pl : Int) := by omega
      rw [any_con] at C
      cases hq : conB R k with
      | true =>
        have H : Hid (partI R pl = (k : Int)) := by
          have : partN R (k + 1) = some k := by unfold partN; rw [ha.out]; simp [hq]
          show _ = _
          unfold partI
          rw [partN_stays this pl (by omega)]
        rw [hq] at C
        have HC : Hid (∀ w2, Same0 (wr.alloc (.cells #[.int .i64 (k : Int)] 3)) w2 → w2.cell? ⟨wr.heap.size, 0, none⟩ = some (.int .i64 (k : Int))) := fun w2 h2 => cellAt (h2.at0 (heap_alloc_new wr _)) 0
        clear hq ha CC
        go_wp2_with (first | (go_at_call 136; refine C.mono ?_; rintro e w2 ⟨rfl, hw2⟩; have c2 := HC.out _ hw2))
        go_ret
        exact ⟨ret_int H.out.symm, (K.trans' hw).trans' (ka.trans' hw2)⟩
      | false =>
        have H : Hid (partN R (k + 1) = none) := by
          show _ = _
          unfold partN; rw [ha.out]; simp [hq]
        rw [hq] at C
        clear hq ha
        go_wp2_with (first | (go_at_call 136; refine C.mono ?_; rintro e w2 ⟨rfl, hw2⟩))
        exact ⟨⟨k + 1, by omega, by go_num, H, hw.trans' (ka.trans' hw2)⟩, by simp [intOf]; omega⟩
    · have H : Hid (partI R pl = -1) := by
        obtain rfl : k = pl := by omega
        show _ = _
        unfold partI
        rw [ha.out]
      clear ha
      go_wp2
      go_ret
      exact ⟨ret_int H.out.symm, K.trans' hw⟩
end Go.Proofs.YthamjjhioafkjaaGreat
namespace Go.Proofs.YthamjjhioafkjaaGreat
set_option maxRecDepth 100000
set_option linter.unusedVariables false
open Go.RowKit
attribute [local go_sem ↓] Go.wp_at_zero Go.wp_at_succ
theorem wpList_rw {w0 W : World} {ops : Array Oper} {rest : List Oper} {o : Oper} {a : Act} {Q : Exit → Act → World → Prop} (hgd : o.guard = none) (s x : Operand)
    (ho : o.op = .call { callee := .builtin .append, args := #[s, x], argTypes := #[150, 150] })
    (base N : Nat) (vs : List Value) (v : Value) (hs : a.eval s = v) (hW : Same0 w0 W) (hr : w0.ownsRow base 192 3 v N vs) (A B C : Value) (q : Nat) (hx : a.eval x = .slice (some ⟨q, 0, none⟩) 1 1) (hq : W.heap[q]? = some (.cells #[A, B, C] 192 (0, 0))) (hA : A.oneCell' = true) (hB : B.oneCell' = true) (hC : C.oneCell' = true) (hb : base ≤ w0.heap.size) (hsz : N ≤ 1000)
    (h : ∀ g cap w', w'.ownsRow base 192 3 (.slice (some ⟨g, 0, none⟩) (N + 1) cap) (N + 1) (vs ++ [A, B, C]) → Kept (fun k => v.ownBlock = some k) w0 w' → wpList Tryz.prog ops Q rest (a.put o.dst (.slice (some ⟨g, 0, none⟩) (N + 1) cap)) w') :
    wpList Tryz.prog ops Q (o :: rest) a W := by
  obtain ⟨i, hi, hz0, hz1, hz2⟩ := info_parts info_row
  refine wpList_append_own _ hgd s x 150 ho base 192 i _ 3 56 Tryz.underlying150 hi hz0 hz1 hz2 rfl (by decide) v N vs hs (hW.row hr (fun _ _ f => f)) ⟨q, 0, none⟩ 1 1 [A, B, C] hx rfl (World.news_of_block (cs := #[A, B, C]) (t := 192) (fr := (0, 0)) hq) (by intro u hu; simp at hu; rcases hu with rfl | rfl | rfl <;> assumption) (by unfold maxLen; omega) (by omega) (Nat.le_trans hb hW.size) ?_
  intro v' w' hown hgrow _
  rcases hown.2 with ⟨rfl, h0⟩ | ⟨g, cap, cur, rfl, r⟩
  · omega
  · exact h g cap w' hown (Kept.grown (Kept.mono hW (fun _ _ f => f.elim)) hgrow (fun _ e _ => e))
theorem step_rw {w0 W : World} {ops : Array Oper} {o : Oper} {a : Act} {K : Act → World → Prop} {Q : Exit → Act → World → Prop} {E : Prop} (hgd : o.guard = none) (s x : Operand)
    (ho : o.op = .call { callee := .builtin .append, args := #[s, x], argTypes := #[150, 150] })
    (base N : Nat) (vs : List Value) (v : Value) (hs : a.eval s = v) (hW : Same0 w0 W) (hr : w0.ownsRow base 192 3 v N vs) (A B C : Value) (q : Nat) (hx : a.eval x = .slice (some ⟨q, 0, none⟩) 1 1) (hq : W.heap[q]? = some (.cells #[A, B, C] 192 (0, 0))) (hA : A.oneCell' = true) (hB : B.oneCell' = true) (hC : C.oneCell' = true) (hb : base ≤ w0.heap.size) (hsz : N ≤ 1000)
    (h : ∀ g cap w', w'.ownsRow base 192 3 (.slice (some ⟨g, 0, none⟩) (N + 1) cap) (N + 1) (vs ++ [A, B, C]) → Kept (fun k => v.ownBlock = some k) w0 w' → K (a.put o.dst (.slice (some ⟨g, 0, none⟩) (N + 1) cap)) w') :
    if Region.wanted o (yielded ops a.tmps) = true then Oper.wp Tryz.prog o a W K Q else E := by
  obtain ⟨i, hi, hz0, hz1, hz2⟩ := info_parts info_row
  refine step_append_lies _ hgd s x 150 ho base 192 i _ 3 56 Tryz.underlying150 hi hz0 hz1 hz2 rfl (by decide) v N vs hs (hW.row hr (fun _ _ f => f)) ⟨q, 0, none⟩ 1 1 [A, B, C] hx rfl (World.news_of_block (cs := #[A, B, C]) (t := 192) (fr := (0, 0)) hq) (by intro u hu; simp at hu; rcases hu with rfl | rfl | rfl <;> assumption) (by omega) (by unfold maxLen; omega) (by omega) (Nat.le_trans hb hW.size) W.heap.size rfl ?_
  intro g cap w' hown hgrow hat hlt
  exact h g cap w' hown (Kept.grown (Kept.mono hW (fun _ _ f => f.elim)) hgrow (fun _ e _ => e))
theorem row_ty {w : World} {base N : Nat} {v : Value} {vs : List Value} (h : w.ownsRow base 192 3 v N vs) : ∀ k,v.ownBlock = some k → ∀ cur,w.heap[k]? ≠ some (.cells cur 3 (0,0)) := fun k e cur hc => by
  obtain ⟨c, h2⟩ := own_blk h e
  rw [hc] at h2; cases h2
theorem havR_take {R : List Rw} {c k : Nat} {s : Int} (h : k < R.length) : havR (R.take (k + 1)) c s = havR (R.take k) c s ++ (if numR R[k] c = s then [R[k]] else []) := by
  unfold havR
  rw [List.take_add_one, List.getElem?_eq_getElem h, List.filter_append]
  congr 1
  by_cases e : numR R[k] c = s <;> simp [e]
theorem havR_len (R : List Rw) (c : Nat) (s : Int) : (havR R c s).length ≤ R.length := List.length_filter_le _ _
set_option maxHeartbeats 8000000 in
theorem having_any {w : World} {nv pv : Value} {n : Nat} {ro : Option Addr} {rc : Nat} {R : List Rw} (hR : RwAt w ro R) (hok : RowsOk n R) (hm : R.length ≤ 100) {bs : Nat} {po : Option Addr} {pl pc : Nat} (c : Nat) (hc : c < n) (s : Int) :
    Calls Tryz.prog 137 #[.agg #[.pointer (some ⟨bs,0,none⟩),.slice po pl pc,.slice ro R.length rc],.int .i64 (c : Int),.int .i64 s] w fun e w' => ∃ ho hc,e = .returned (.slice ho (havR R c s).length hc) ∧ RwAt w' ho (havR R c s) ∧ (ho = none → hc = 0) ∧ Same0 w w' := by
  have K : Same0 w (w.alloc (.cells #[.pointer (some ⟨bs, 0, none⟩), .slice po pl pc, .slice ro R.length rc] 152)) := (Kept.refl _ w).alloc _
  go_enter Tryz.func137, Tryz.ntmps137
  go_wp2
  go_loopw [7, 13] (fun lv i wr => ∃ (k : Nat) (us : List Value), k ≤ R.length ∧ i = .int .i64 (k : Int) ∧ Hid (wr.ownsRow w.heap.size 192 3 lv (havR (R.take k) c s).length us) ∧ Hid (WCells wr us (havR (R.take k) c s)) ∧ Same0 w wr) (fun _ i _ => R.length - (intOf i).toNat)
  case atStart => exact ⟨0, [], Nat.zero_le _, rfl, World.ownsRow_nil _ _ _ _, WCells.nil _, K⟩
  case round =>
    obtain ⟨k, us, hk, rfl, hr, hus, hw⟩ := hrel
    obtain ⟨lo, lc, rfl⟩ := row_shape hr.out
    by_cases hlt : k < R.length
    · obtain ⟨b, off, rfl, hb, ao, ac, bo, bc, r0, r1, r2, A1, A2⟩ := (hR.same hw).get hlt
      obtain ⟨o1, o2⟩ := hok _ (List.getElem_mem hlt)
      have hc' : c < R[k].2.2.length := by omega
      have hp := o2 _ (List.getElem_mem hc')
      have ka : Same0 wr (wr.alloc (.cells #[.int .i64 R[k].1, .slice ao R[k].2.1.length ac, .slice bo R[k].2.2.length bc] 192)) := (Kept.refl _ _).alloc _
      have C := number_any (ac := ac) (bc := bc) (A1.1.at'.same ka) (A2.1.at'.same ka) hc' hp
      have HB : Hid (∀ w2, Same0 (wr.alloc (.cells #[.int .i64 R[k].1, .slice ao R[k].2.1.length ac, .slice bo R[k].2.2.length bc] 192)) w2 → w2.cell? ⟨wr.heap.size, 0, none⟩ = some (.int .i64 R[k].1) ∧ w2.cell? ⟨wr.heap.size, 1, none⟩ = some (.slice ao R[k].2.1.length ac) ∧ w2.cell? ⟨wr.heap.size, 2, none⟩ = some (.slice bo R[k].2.2.length bc)) := fun w2 h2 => ⟨cellAt (h2.at0 (heap_alloc_new wr _)) 0, cellAt (h2.at0 (heap_alloc_new wr _)) 1, cellAt (h2.at0 (heap_alloc_new wr _)) 2⟩
      have i1 : (0 : Int) ≤ (k : Int) := by omega
      have i2 : (k : Int) < (R.length : Int) := by omega
      have hl := havR_len (R.take k) c s
      have hl2 : (R.take k).length = k := by simp; omega
      have hN : (havR (R.take k) c s).length ≤ 1000 := by omega
      have HT := havR_take (c := c) (s := s) hlt
      by_cases hq : numR R[k] c = s
      · have hqe : (numR R[k] c == s) = true := by simpa using hq
        rw [if_pos hq] at HT
        have FIN : Hid (∀ w2 g cap w5, Same0 wr w2 → w5.ownsRow w.heap.size 192 3 (.slice (some ⟨g, 0, none⟩) ((havR (R.take k) c s).length + 1) cap) ((havR (R.take k) c s).length + 1) (us ++ [.int .i64 R[k].1, .slice ao R[k].2.1.length ac, .slice bo R[k].2.2.length bc]) → Kept (fun q => (Value.slice lo (havR (R.take k) c s).length lc).ownBlock = some q) w2 w5 → ∃ us', Hid (w5.ownsRow w.heap.size 192 3 (.slice (some ⟨g, 0, none⟩) ((havR (R.take k) c s).length + 1) cap) (havR (R.take (k + 1)) c s).length us') ∧ Hid (WCells w5 us' (havR (R.take (k + 1)) c s)) ∧ Same0 w w5) := by
          intro w2 g cap w5 k2 r5 k5
          have hr2 := k2.row hr.out (fun _ _ f => f)
          refine ⟨us ++ [.int .i64 R[k].1, .slice ao R[k].2.1.length ac, .slice bo R[k].2.2.length bc], ?_, ?_, Kept.trans (hw.trans' k2) k5 (fun i hi e => by have := (hr2.lt i e).1; omega)⟩
          · show World.ownsRow _ _ _ _ _ _ _
            rw [HT, List.length_append]; exact r5
          · show WCells _ _ _
            rw [HT]; exact ((hus.out.same k2).snoc (A1.same k2) (A2.same k2)).kept k5 (row_ty hr2)
        have hz0 : w.heap.size ≤ wr.heap.size := hw.size
        have HR2 : Hid (∀ w2, Same0 wr w2 → w2.ownsRow w.heap.size 192 3 (.slice lo (havR (R.take k) c s).length lc) (havR (R.take k) c s).length us) := fun w2 k2 => k2.row hr.out (fun _ _ f => f)
        clear hr hus HT hl hl2 A1 A2 o1 o2 hp hc' hR hok hq
        generalize (havR (R.take k) c s).length = N at *
        go_wp2_with (first
          | (go_at_call 135; refine C.mono ?_; rintro e w2 ⟨rfl, hk2⟩; obtain ⟨y0, y1, y2⟩ := HB.out _ hk2; have k2 : Same0 wr w2 := ka.trans' hk2; have hz2 := Nat.le_trans hz0 k2.size)
          | (at_builtin; refine wpList_rw (w0 := w2) rfl _ _ rfl w.heap.size N us (.slice lo N lc) rfl ((Kept.refl _ w2).alloc _) (HR2.out _ k2) (.int .i64 R[k].1) (.slice ao R[k].2.1.length ac) (.slice bo R[k].2.2.length bc) w2.heap.size rfl (heap_alloc_new w2 _) rfl rfl rfl hz2 hN ?_; intro g cap w5 r5 k5))
        obtain ⟨us', z1, z2, z3⟩ := FIN.out w2 g cap w5 k2 r5 k5
        exact ⟨⟨k + 1, us', by omega, by go_num, z1, z2, z3⟩, by simp [intOf]; omega⟩
      · have hqe : (numR R[k] c == s) = false := by simpa using hq
        rw [if_neg hq, List.append_nil] at HT
        have FIN : Hid (∀ w2, Same0 wr w2 → Hid (w2.ownsRow w.heap.size 192 3 (.slice lo (havR (R.take k) c s).length lc) (havR (R.take (k + 1)) c s).length us) ∧ Hid (WCells w2 us (havR (R.take (k + 1)) c s))) := fun w2 k2 => by
          refine ⟨?_, ?_⟩
          · show World.ownsRow _ _ _ _ _ _ _
            rw [HT]; exact k2.row hr.out (fun _ _ f => f)
          · show WCells _ _ _
            rw [HT]; exact hus.out.same k2
        clear hr hus HT hl hl2 A1 A2 o1 o2 hp hc' hR hok hq
        generalize (havR (R.take k) c s).length = N at *
        go_wp2_with (first
          | (go_at_call 135; refine C.mono ?_; rintro e w2 ⟨rfl, hk2⟩; have k2 : Same0 wr w2 := ka.trans' hk2))
        obtain ⟨z1, z2⟩ := FIN.out w2 k2
        exact ⟨⟨k + 1, us, by omega, by go_num, z1, z2, hw.trans' k2⟩, by simp [intOf]; omega⟩
    · have e1 : R.take k = R := List.take_of_length_le (by omega)
      have hr' := hr.out
      have hus' := hus.out
      rw [e1] at hr' hus'
      obtain ⟨ho, hcc, q1, q2, q3, _⟩ := row_rows hr' hus'
      have FIN : Hid (∃ ho hc, Value.slice lo (havR (R.take k) c s).length lc = .slice ho (havR R c s).length hc ∧ RwAt wr ho (havR R c s) ∧ (ho = none → hc = 0) ∧ Same0 w wr) := ⟨ho, hcc, by rw [← q1, e1], q2, q3, hw⟩
      clear hr hus hr' hus' q1 q2 q3 e1 hR hok
      generalize (havR (R.take k) c s).length = N at *
      go_wp2
      go_ret
      obtain ⟨ho, hc, q1, q2⟩ := FIN.out
      exact ⟨ho, hc, by rw [q1]; rfl, q2⟩
end Go.Proofs.YthamjjhioafkjaaGreat
namespace Go.Proofs.YthamjjhioafkjaaGreat
set_option maxRecDepth 100000
set_option linter.unusedVariables false
open Go.RowKit
attribute [local go_sem ↓] Go.wp_at_zero Go.wp_at_succ
theorem Src.cutl {w : World} {b off m c : Nat} {us : List Value} (h : Src w (some ⟨b,off,none⟩) m c us) (k : Nat) (hk : k ≤ m) : Src w (some ⟨b,off,none⟩) k c (us.take k) := by
  refine ⟨by have := h.len; simp; omega, fun u hu => h.one u (List.mem_of_mem_take hu), fun ad e j u hj => ?_, fun e => by cases e⟩
  refine h.at' ad e j u ?_
  rw [List.getElem?_take] at hj
  split at hj
  · exact hj
  · cases hj
theorem Src.cutr {w : World} {b off m c d : Nat} {us : List Value} (h : Src w (some ⟨b,off,none⟩) m c us) (k : Nat) (hk : k ≤ m) : Src w (some ⟨b,off + k,none⟩) (m - k) d (us.drop k) := by
  refine ⟨by have := h.len; simp; omega, fun u hu => h.one u (List.mem_of_mem_drop hu), fun ad e j u hj => ?_, fun e => by cases e⟩
  cases e
  rw [List.getElem?_drop] at hj
  have := h.at' _ rfl _ u hj
  rw [addr_add] at this ⊢
  rw [← this]; congr 2; omega
theorem Src.void {w : World} {ao : Option Addr} {m c : Nat} {us : List Value} (h0 : m = 0) (hn : ao ≠ none) (hu : us = []) : Src w ao m c us := by
  subst h0 hu
  exact Src.nil w ao c (fun e => absurd e hn)
set_option maxHeartbeats 4000000 in
theorem replaced_nums {w : World} {b off m c : Nat} {us : List Value} {bo : Option Addr} {k d : Nat} {vs : List Value} (h : Src w (some ⟨b,off,none⟩) m c us) (hb : b < w.heap.size) (hmc : m ≤ c) (h2 : Src w bo k d vs) {p : Nat} (hp : p < m) (hl : m + k ≤ 10000) :
    Calls Tryz.prog 133 #[.slice (some ⟨b,off,none⟩) m c,.int .i64 (p : Int),.slice bo k d] w fun e w' => ∃ v,e = .returned v ∧ w'.ownsRow w.heap.size 3 1 v (m - 1 + k) (us.take p ++ vs ++ us.drop (p + 1)) ∧ Same0 w w' := by
  have ew : IntKind.i64.wrap ((p : Int) + 1) = (p : Int) + 1 := iwrap (by omega) (by omega)
  have i1 : (0 : Int) ≤ (p : Int) := by omega
  have i2 : (p : Int) ≤ (c : Int) := by omega
  have i3 : (p : Int) + 1 ≤ (m : Int) := by omega
  have i4 : (0 : Int) ≤ (p : Int) + 1 := by omega
  have hlen : ∀ n, p + k + n = p + k + n := fun _ => rfl
  have CAT : Hid (∀ (ww : World) (a2 : Option Addr) (m2 c2 : Nat), Same0 w ww → Src w a2 m2 c2 (us.drop (p + 1)) → m2 = m - (p + 1) → Calls Tryz.prog 130 #[.slice (some ⟨ww.heap.size, 0, none⟩) 3 3] (ww.alloc (.cells #[.slice (some ⟨b, off, none⟩) p c, .slice bo k d, .slice a2 m2 c2] 23)) fun e w' => ∃ v, e = .returned v ∧ Hid (w'.ownsRow w.heap.size 3 1 v (m - 1 + k) (us.take p ++ vs ++ us.drop (p + 1))) ∧ Same0 w w') := by
    intro ww a2 m2 c2 hk hs hm2
    have ka : Same0 ww (ww.alloc (.cells #[.slice (some ⟨b, off, none⟩) p c, .slice bo k d, .slice a2 m2 c2] 23)) := (Kept.refl _ _).alloc _
    have kk := hk.trans' ka
    refine (concat3_nums (heap_alloc_new ww _) ((h.cutl p (by omega)).same kk) (h2.same kk) (hs.same kk) (by omega)).mono ?_
    rintro e w' ⟨v, rfl, hr, h3⟩
    refine ⟨v, rfl, ?_, kk.trans' h3⟩
    have e1 : p + k + m2 = m - 1 + k := by omega
    rw [e1] at hr
    exact row_mono hr (by rw [World.size_alloc]; have := hk.size; omega)
  by_cases hc1 : c = p + 1
  · have hm1 : m = p + 1 := by omega
    have S2 : Src w (some ⟨b, off, none⟩) 0 0 (us.drop (p + 1)) := Src.void rfl (by simp) (by have := h.len; exact List.drop_eq_nil_of_le (by omega))
    have CAT2 : Hid (∀ ww, Same0 w ww → Calls Tryz.prog 130 #[.slice (some ⟨ww.heap.size, 0, none⟩) 3 3] (ww.alloc (.cells #[.slice (some ⟨b, off, none⟩) p c, .slice bo k d, .slice (some ⟨b, off, none⟩) 0 0] 23)) fun e w' => ∃ v, e = .returned v ∧ Hid (w'.ownsRow w.heap.size 3 1 v (m - 1 + k) (us.take p ++ vs ++ us.drop (p + 1))) ∧ Same0 w w') := fun ww hk => CAT.out ww _ 0 0 hk S2 (by omega)
    have W1 : Same0 w w.drew := Kept.drew (Kept.refl _ _)
    clear CAT S2 h h2
    subst hc1 hm1
    go_enter Tryz.func133, Tryz.ntmps133
    go_wp2
    go_region_with (first | (go_at_call 130; refine (CAT2.out _ W1).mono ?_; rintro e w5 ⟨v, rfl, hr, hk⟩))
    all_goals
      go_wp2
      go_ret
      exact ⟨_, rfl, hr.out, hk⟩
  · have CAT2 : Hid (∀ ww, Same0 w ww → Calls Tryz.prog 130 #[.slice (some ⟨ww.heap.size, 0, none⟩) 3 3] (ww.alloc (.cells #[.slice (some ⟨b, off, none⟩) p c, .slice bo k d, .slice (some ⟨b, off + (p + 1), none⟩) (m - (p + 1)) (c - (p + 1))] 23)) fun e w' => ∃ v, e = .returned v ∧ Hid (w'.ownsRow w.heap.size 3 1 v (m - 1 + k) (us.take p ++ vs ++ us.drop (p + 1))) ∧ Same0 w w') := fun ww hk => CAT.out ww _ (m - (p + 1)) (c - (p + 1)) hk (h.cutr (p + 1) (by omega)) rfl
    have W1 : Same0 w w.drew := Kept.drew (Kept.refl _ _)
    clear CAT h h2
    go_enter Tryz.func133, Tryz.ntmps133
    go_wp2
    go_region_with (first | (go_at_call 130; refine (CAT2.out _ W1).mono ?_; rintro e w5 ⟨v, rfl, hr, hk⟩))
    all_goals
      go_wp2
      go_ret
      exact ⟨_, rfl, hr.out, hk⟩
set_option maxHeartbeats 4000000 in
theorem replaced_paths {w : World} {b off m c : Nat} {us : List Value} {bo : Option Addr} {k d : Nat} {vs : List Value} (h : Src w (some ⟨b,off,none⟩) m c us) (hb : b < w.heap.size) (hmc : m ≤ c) (h2 : Src w bo k d vs) {p : Nat} (hp : p < m) (hl : m + k ≤ 10000) :
    Calls Tryz.prog 131 #[.slice (some ⟨b,off,none⟩) m c,.int .i64 (p : Int),.slice bo k d] w fun e w' => ∃ v,e = .returned v ∧ w'.ownsRow w.heap.size 23 1 v (m - 1 + k) (us.take p ++ vs ++ us.drop (p + 1)) ∧ Same0 w w' := by
  have ew : IntKind.i64.wrap ((p : Int) + 1) = (p : Int) + 1 := iwrap (by omega) (by omega)
  have i1 : (0 : Int) ≤ (p : Int) := by omega
  have i2 : (p : Int) ≤ (c : Int) := by omega
  have i3 : (p : Int) + 1 ≤ (m : Int) := by omega
  have i4 : (0 : Int) ≤ (p : Int) + 1 := by omega
  have hlen : ∀ n, p + k + n = p + k + n := fun _ => rfl
  have CAT : Hid (∀ (ww : World) (a2 : Option Addr) (m2 c2 : Nat), Same0 w ww → Src w a2 m2 c2 (us.drop (p + 1)) → m2 = m - (p + 1) → Calls Tryz.prog 158 #[.slice (some ⟨ww.heap.size, 0, none⟩) 3 3] (ww.alloc (.cells #[.slice (some ⟨b, off, none⟩) p c, .slice bo k d, .slice a2 m2 c2] 28)) fun e w' => ∃ v, e = .returned v ∧ Hid (w'.ownsRow w.heap.size 23 1 v (m - 1 + k) (us.take p ++ vs ++ us.drop (p + 1))) ∧ Same0 w w') := by
    intro ww a2 m2 c2 hk hs hm2
    have ka : Same0 ww (ww.alloc (.cells #[.slice (some ⟨b, off, none⟩) p c, .slice bo k d, .slice a2 m2 c2] 28)) := (Kept.refl _ _).alloc _
    have kk := hk.trans' ka
    refine (concat3_paths (heap_alloc_new ww _) ((h.cutl p (by omega)).same kk) (h2.same kk) (hs.same kk) (by omega)).mono ?_
    rintro e w' ⟨v, rfl, hr, h3⟩
    refine ⟨v, rfl, ?_, kk.trans' h3⟩
    have e1 : p + k + m2 = m - 1 + k := by omega
    rw [e1] at hr
    exact row_mono hr (by rw [World.size_alloc]; have := hk.size; omega)
  by_cases hc1 : c = p + 1
  · have hm1 : m = p + 1 := by omega
    have S2 : Src w (some ⟨b, off, none⟩) 0 0 (us.drop (p + 1)) := Src.void rfl (by simp) (by have := h.len; exact List.drop_eq_nil_of_le (by omega))
    have CAT2 : Hid (∀ ww, Same0 w ww → Calls Tryz.prog 158 #[.slice (some ⟨ww.heap.size, 0, none⟩) 3 3] (ww.alloc (.cells #[.slice (some ⟨b, off, none⟩) p c, .slice bo k d, .slice (some ⟨b, off, none⟩) 0 0] 28)) fun e w' => ∃ v, e = .returned v ∧ Hid (w'.ownsRow w.heap.size 23 1 v (m - 1 + k) (us.take p ++ vs ++ us.drop (p + 1))) ∧ Same0 w w') := fun ww hk => CAT.out ww _ 0 0 hk S2 (by omega)
    have W1 : Same0 w w.drew := Kept.drew (Kept.refl _ _)
    clear CAT S2 h h2
    subst hc1 hm1
    go_enter Tryz.func131, Tryz.ntmps131
    go_wp2
    go_region_with (first | (go_at_call 158; refine (CAT2.out _ W1).mono ?_; rintro e w5 ⟨v, rfl, hr, hk⟩))
    all_goals
      go_wp2
      go_ret
      exact ⟨_, rfl, hr.out, hk⟩
  · have CAT2 : Hid (∀ ww, Same0 w ww → Calls Tryz.prog 158 #[.slice (some ⟨ww.heap.size, 0, none⟩) 3 3] (ww.alloc (.cells #[.slice (some ⟨b, off, none⟩) p c, .slice bo k d, .slice (some ⟨b, off + (p + 1), none⟩) (m - (p + 1)) (c - (p + 1))] 28)) fun e w' => ∃ v, e = .returned v ∧ Hid (w'.ownsRow w.heap.size 23 1 v (m - 1 + k) (us.take p ++ vs ++ us.drop (p + 1))) ∧ Same0 w w') := fun ww hk => CAT.out ww _ (m - (p + 1)) (c - (p + 1)) hk (h.cutr (p + 1) (by omega)) rfl
    have W1 : Same0 w w.drew := Kept.drew (Kept.refl _ _)
    clear CAT h h2
    go_enter Tryz.func131, Tryz.ntmps131
    go_wp2
    go_region_with (first | (go_at_call 158; refine (CAT2.out _ W1).mono ?_; rintro e w5 ⟨v, rfl, hr, hk⟩))
    all_goals
      go_wp2
      go_ret
      exact ⟨_, rfl, hr.out, hk⟩
end Go.Proofs.YthamjjhioafkjaaGreat
namespace Go.Proofs.YthamjjhioafkjaaGreat
set_option maxRecDepth 100000
set_option linter.unusedVariables false
open Go.RowKit
attribute [local go_sem ↓] Go.wp_at_zero Go.wp_at_succ
def LaidQ (base g A k : Nat) (P : List (List Int)) (w wr : World) : Prop := ∃ ys : List Value, wr.ownsRow base 23 1 (.slice (some ⟨g, 0, none⟩) A A) A ys ∧ PCells wr (ys.take k) P ∧ Same0 w wr
theorem LaidQ.cell {base g A k : Nat} {P : List (List Int)} {w wr : World} (h : LaidQ base g A k P w wr) (hk : k < A) : ∃ old,wr.cell? ⟨g,k,none⟩ = some old ∧ wr.frozen? ⟨g,k,none⟩ = false := by
  obtain ⟨ys, h1, _⟩ := h
  exact row_put h1 hk
theorem LaidQ.same {base g A k : Nat} {P : List (List Int)} {w wr w1 : World} (h : LaidQ base g A k P w wr) (hk : Same0 wr w1) : LaidQ base g A k P w w1 := by
  obtain ⟨ys, h1, h2, h4⟩ := h
  exact ⟨ys, hk.row h1 (fun _ _ f => f), h2.same hk, h4.trans' hk⟩
theorem LaidQ.next {base g A k : Nat} {P : List (List Int)} {w wr : World} (h : LaidQ base g A k P w wr) (hk : k < A) (hg : w.heap.size ≤ g) {ao : Option Addr} {ac : Nat} {p : List Int} (hp : ArgT wr ao p ac) : LaidQ base g A (k + 1) (P ++ [p]) w (wr.setCell ⟨g,k,none⟩ (.slice ao p.length ac)) := by
  obtain ⟨ys, h1, h2, h4⟩ := h
  have hl : ys.length = A := by have := h1.1; omega
  have hgT : ∃ cur, wr.heap[g]? = some (.cells cur 23 (0, 0)) := own_blk h1 rfl
  have ks : Kept (fun q => q = g) wr (wr.setCell ⟨g, k, none⟩ (.slice ao p.length ac)) := Kept.setCell (p := ⟨g, k, none⟩) (Kept.refl (fun q => q = g) wr) (fun _ => rfl) _
  have nT : ∀ q, q = g → ∀ cur, wr.heap[q]? ≠ some (.cells cur 3 (0, 0)) := fun q e cur hc => by
    subst e
    obtain ⟨c2, h⟩ := hgT
    rw [h] at hc; cases hc
  refine ⟨ys.set k (.slice ao p.length ac), (h1.stored k _).1, ?_, h4.own hg _⟩
  rw [take_set (by omega)]
  refine PCells.append (h2.kept ks nT) ⟨rfl, fun i hi => ?_⟩
  obtain rfl : i = 0 := by simp at hi; omega
  exact ⟨ao, ac, rfl, hp.kept ks nT⟩
theorem LaidQ.src {base g A : Nat} {P : List (List Int)} {w wr : World} (h : LaidQ base g A A P w wr) : ∃ us,PCells wr us P ∧ Src wr (some ⟨g,0,none⟩) A A us := by
  obtain ⟨ys, h1, h2, h4⟩ := h
  have hl : ys.length = A := by have := h1.1; omega
  rw [List.take_of_length_le (by omega)] at h2
  exact ⟨ys, h2, hl, h2.one, fun ad e j u hj => by cases e; exact h1.cells rfl j u hj, fun e => by cases e⟩
theorem PsAt.src {w : World} {po : Option Addr} {P : List (List Int)} {pc : Nat} (h : PsAt w po P) (hn : po = none → pc = 0) : ∃ us,PCells w us P ∧ Src w po P.length pc us := by
  obtain ⟨us, h1, h2⟩ := h.cells
  refine ⟨us, h1, h1.1, h1.one, h2, fun e => ⟨hn e, ?_⟩⟩
  rcases h with rfl | ⟨b, off, e', _⟩
  · exact List.eq_nil_of_length_eq_zero h1.1
  · rw [e] at e'; cases e'
theorem Arg.src {w : World} {ao : Option Addr} {xs : List Int} {ac : Nat} (h : Arg w ao xs ac) : Src w ao xs.length ac (iv xs) := by
  refine ⟨iv_length xs, iv_oneCell xs, fun ad e j u hj => ?_, fun e => ⟨(h.nil e).2, ?_⟩⟩
  · have h0 : 0 < (iv xs).length := by have := (List.getElem?_eq_some_iff.1 hj).1; omega
    obtain ⟨ad', e', hc⟩ := h.at'.src h0
    rw [e] at e'
    cases e'
    exact hc j u hj
  · have := (h.nil e).1
    rw [List.eq_nil_of_length_eq_zero this]; rfl
theorem ofN_iv_take (l : List Nat) (n : Nat) : (iv (ofN l)).take n = iv (ofN (l.take n)) := by simp [iv,ofN,List.map_take]
theorem ofN_iv_drop (l : List Nat) (n : Nat) : (iv (ofN l)).drop n = iv (ofN (l.drop n)) := by simp [iv,ofN,List.map_drop]
structure KidIn (w : World) (L : List Sym) (bs : Nat) (po : Option Addr) (pc : Nat) (P : List (List Int)) (c s : Nat) (ho : Option Addr) (H : List Rw) : Prop where
  sig : Sg w.heap.size w bs L
  ps : PsAt w po P
  nul : po = none → pc = 0
  cap : P.length ≤ pc
  c' : c < P.length
  s' : s < L.length
  hs : RwAt w ho H
  le : H.length ≤ 100
  few : P.length ≤ 4000
  len : ∀ p ∈ P, p.length ≤ 4000
  ok : ∀ x ∈ H, checkE L x.2.1 = 0 ∧ x.2.2.length = P.length ∧ (∀ p ∈ x.2.2, p < x.2.1.length) ∧ numR x c = (s : Int)
theorem KidIn.same {w w' : World} {L : List Sym} {bs : Nat} {po : Option Addr} {pc : Nat} {P : List (List Int)} {c s : Nat} {ho : Option Addr} {H : List Rw} (h : KidIn w L bs po pc P c s ho H) (hk : Same0 w w') : KidIn w' L bs po pc P c s ho H :=
  ⟨sg_up (h.sig.same hk) hk.size, h.ps.same hk, h.nul, h.cap, h.c', h.s', h.hs.same hk, h.le, h.few, h.len, h.ok⟩
def KidOut (w : World) (L : List Sym) (bs : Nat) (P : List (List Int)) (c s : Nat) (H : List Rw) (e : Ending) (w' : World) : Prop :=
  ∃ po pc ro rc, e = .returned (.agg #[.pointer (some ⟨bs, 0, none⟩), .slice po (kidP L P c s).length pc, .slice ro H.length rc]) ∧ PsAt w' po (kidP L P c s) ∧ (po = none → pc = 0) ∧ (kidP L P c s).length ≤ pc ∧ RwAt w' ro (H.map (kidX L c)) ∧ (ro = none → rc = 0) ∧ Same0 w w'
def belowP (L : List Sym) (P : List (List Int)) (c k : Nat) : List (List Int) := (List.range k).map (fun (i : Nat) => P.getD c [] ++ [(i : Int)])
theorem belowP_succ (L : List Sym) (P : List (List Int)) (c k : Nat) : belowP L P c (k + 1) = belowP L P c k ++ [P.getD c [] ++ [(k : Int)]] := by simp [belowP,List.range_succ]
theorem kid_paths {w : World} {L : List Sym} {bs : Nat} {po : Option Addr} {pc : Nat} {P : List (List Int)} {c s : Nat} {ho : Option Addr} {H : List Rw} (h : KidIn w L bs po pc P c s ho H) {base g A : Nat} {w0 : World} (hA : A = arN L (s : Int)) (hA6 : A ≤ 6) (hl : LaidQ base g A A (belowP L P c A) w0 w) :
    Calls Tryz.prog 131 #[.slice po P.length pc,.int .i64 (c : Int),.slice (some ⟨g,0,none⟩) A A] w fun e w' => ∃ vo vc,e = .returned (.slice vo (kidP L P c s).length vc) ∧ PsAt w' vo (kidP L P c s) ∧ (vo = none → vc = 0) ∧ (kidP L P c s).length ≤ vc ∧ Same0 w w' := by
  obtain ⟨us, u1, u2⟩ := h.ps.src h.nul
  obtain ⟨vs, v1, v2⟩ := hl.src
  obtain ⟨b, off, ao, ac, rfl, hb, _⟩ := h.ps.get h.c'
  refine (replaced_paths u2 hb h.cap v2 h.c' (by have := h.few; omega)).mono ?_
  rintro e w' ⟨v, rfl, hr, hk⟩
  have hc : PCells w' (us.take c ++ vs ++ us.drop (c + 1)) (kidP L P c s) := by
    unfold kidP repl
    rw [← hA]
    exact (((u1.take c).append v1).append (u1.drop (c + 1))).same hk
  obtain ⟨vo, vc, e1, e2, e3, e4⟩ := row_paths hr hc
  exact ⟨vo, vc, by rw [e1], e2, e3, e4, hk⟩
end Go.Proofs.YthamjjhioafkjaaGreat
