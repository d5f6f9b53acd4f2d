import Derived.Test.YtbjfpfnfbgncnaaGreatDoorM29
import Derived.Deep.RegionWith
/- The walk of the reader's term. -/
namespace Go.Proofs.YtbjfpfnfbgncnaaGreatDoor
open Go.RowKit
set_option linter.unusedVariables false
set_option maxRecDepth 100000
theorem bump_mid (acc ys : List Item) (x : Item) : bumpA acc.length (acc ++ x :: ys) = acc ++ ⟨x.t, x.args + 1⟩ :: ys := by
  simp only [bumpA]
  induction acc with
  | nil => simp
  | cons y acc ih => simpa using ih
def argsC (acc ys : List Item) (x : Item) : Except Nat (List Item × Nat × List Tok) → Except Nat (List Item × List Tok)
  | .error p => .error p
  | .ok (is, c, r) => .ok (acc ++ ⟨x.t, x.args + c⟩ :: (ys ++ is), r)
theorem row_args (f : Nat) (acc : List Item) (m : Nat) : ∀ (q : List Tok) (x : Item) (ys : List Item), rowR (oneT f acc.length) 6 m q (acc ++ x :: ys) = argsC acc ys x (argsF (termF f) m q) := by
  induction m with
  | zero => intro q x ys; rfl
  | succ m ih =>
    intro q x ys
    cases hT : termF f q with
    | error p => simp [rowR, oneT, argsF, argsC, hT]
    | ok v =>
      obtain ⟨is, r⟩ := v
      have e1 : oneT f acc.length q (acc ++ x :: ys) = .ok (acc ++ ⟨x.t, x.args + 1⟩ :: (ys ++ is), r) := by
        simp only [oneT, hT]
        rw [List.append_assoc, List.cons_append, bump_mid]
      cases r with
      | nil => simp [rowR, argsF, argsC, hT, e1]
      | cons c r =>
        by_cases hc : c.kind = 6
        · simp only [rowR, e1, argsF, hT, hc, if_true]
          rw [ih]
          cases argsF (termF f) m r with
          | error p => rfl
          | ok v => obtain ⟨js, k, q'⟩ := v; simp [argsC, Nat.add_comm, Nat.add_left_comm]
        · simp [rowR, e1, argsF, hT, hc, argsC]
def termC (t : Tok) : Except Nat (List Item × Nat × List Tok) → Except Nat (List Item × List Tok)
  | .error e => .error e
  | .ok (_, _, []) => .error 0
  | .ok (is, k, c :: u) => if c.kind = 5 then .ok (⟨t, k⟩ :: is, u) else .error c.at'
theorem term_open {f : Nat} {t o : Tok} {q : List Tok} (h1 : t.kind = 1) (h4 : o.kind = 4) : termF (f + 1) (t :: o :: q) = termC t (argsF (termF f) f q) := by
  simp only [termF]
  rw [if_neg (by omega), if_pos h1, if_pos h4]
  cases argsF (termF f) f q with
  | error e => rfl
  | ok v =>
    obtain ⟨is, k, r⟩ := v
    cases r <;> rfl
theorem term_name {f : Nat} {t o : Tok} {q : List Tok} (h1 : t.kind = 1) (h4 : ¬ o.kind = 4) : termF (f + 1) (t :: o :: q) = .ok ([⟨t, 0⟩], o :: q) := by
  simp only [termF]
  rw [if_neg (by omega), if_pos h1, if_neg h4]
set_option maxHeartbeats 2000000 in
theorem term_bad {f : Nat} {w : World} {rb tb base : Nat} {t : Tok} {r : List Tok} {lv : Value} {l : List Item} (h : RdAt w rb tb (t :: r)) (hl : WRow base w lv l) (hk : ¬ (t.kind = 2 ∨ t.kind = 1)) :
    Calls Tryz.prog 23 #[.pointer (some ⟨rb, 0, none⟩), lv] w (TermCame base rb tb w (t :: r) lv l (.error t.at')) := by
  obtain ⟨ao, cap, rfl⟩ : ∃ ao cap, lv = .slice ao l.length cap := row_shape hl
  go_enter Tryz.func23, Tryz.ntmps23
  go_upto_region 2 with (fail)
  have L0 := laid3 w rb (.slice ao l.length cap) l.length
  have K0 : Same0 w (((w.alloc (.cells #[.pointer (some ⟨rb, 0, none⟩)] 59)).alloc (.cells #[.slice ao l.length cap] 61)).alloc (.cells #[.int .i64 (l.length : Int)] 3)) := Kept.alloc (Kept.alloc (Kept.alloc (Kept.refl _ w) _) _) _
  obtain ⟨W, hW⟩ : ∃ W, (((w.alloc (.cells #[.pointer (some ⟨rb, 0, none⟩)] 59)).alloc (.cells #[.slice ao l.length cap] 61)).alloc (.cells #[.int .i64 (l.length : Int)] 3)) = W := ⟨_, rfl⟩
  rw [hW] at L0 K0 ⊢
  clear hW
  have R0 := h.same K0
  have hsz := lt_of_at L0.n0
  have hszr := lt_of_at L0.r0
  have hszl := lt_of_at L0.l0
  clear h hl
  have s0 := cellAt L0.r0 0
  have s1 := cellAt L0.l0 0
  simp only [List.getElem?_toArray, List.getElem?_cons_zero] at s0 s1
  have cT : Calls Tryz.prog 52 #[.pointer (some ⟨rb, 0, none⟩), .slice (some ⟨W.heap.size, 0, none⟩) 2 2] (W.alloc (.cells #[.int .i64 2, .int .i64 1] 3)).drew fun e w' => GaveUp W.heap.size w' e 41 t.at' ∧ Same0 W w' := by
    have k1 : Same0 W (W.alloc (.cells #[.int .i64 2, .int .i64 1] 3)).drew := Kept.drew (Kept.alloc (Kept.refl _ W) _)
    refine (take_bad (R0.same k1) ((ints_two W 2 1).same (Kept.drew (Kept.refl _ _))) 2 (by simp) (by simp; omega)).mono ?_
    rintro e w' ⟨a, b⟩
    exact ⟨a.mono k1.size, k1.trans' b⟩
  have HP : Hid (∀ {e : Ending} {w' : World}, GaveUp W.heap.size w' e 41 t.at' ∧ Same0 W w' → TermCame base rb tb w (t :: r) (.slice ao l.length cap) l (.error t.at') e w') := fun ⟨a, b⟩ => ⟨a.mono (by omega), Kept.mono (K0.trans' b) (fun _ _ f => f.elim)⟩
  have L1 : Laid3 w (W.alloc (.cells #[.int .i64 2, .int .i64 1] 3)) rb (.slice ao l.length cap) l.length := L0.kept (S := fun _ => False) (Kept.alloc (Kept.refl _ W) _) (fun _ _ _ f => f)
  have s0a := cellAt L1.r0 0
  have s1a := cellAt L1.l0 0
  simp only [List.getElem?_toArray, List.getElem?_cons_zero] at s0a s1a
  clear K0 R0 L0 L1 hk
  refine wp_region_held (S := fun w' => w'.cell? ⟨w.heap.size, 0, none⟩ = some (.pointer (some ⟨rb, 0, none⟩)) ∧ w'.cell? ⟨w.heap.size + 1, 0, none⟩ = some (.slice ao l.length cap)) (by kernel_rfl) ?_
  refine wpAnyH_take (i := 0) (v := .slice ao l.length cap) rfl (by kernel_rfl) (by kernel_rfl) (by kernel_rfl) (fun _ _ _ h => h) (.inl ⟨rfl, fun w' hS => ?_⟩) ⟨s0, s1⟩ ?_
  · simp [go_sem, hS.2]
  refine wpAnyH_take (i := 1) (v := .pointer (some ⟨rb, 0, none⟩)) rfl (by kernel_rfl) (by kernel_rfl) (by kernel_rfl) (fun _ _ _ h => h) (.inl ⟨rfl, fun w' hS => ?_⟩) ⟨s0, s1⟩ ?_
  · simp [go_sem, hS.1]
  refine wpAnyH_all (rs := [2]) (by kernel_rfl) (by simp) (fun i hi => ?_)
  obtain rfl := List.mem_singleton.1 hi
  simp [wpOp, go_sem]
  refine .inl ⟨⟨s0a, s1a⟩, ?_⟩
  refine wpAnyH_all (rs := [3]) (by kernel_rfl) (by simp) (fun i hi => ?_)
  obtain rfl := List.mem_singleton.1 hi
  simp [wpOp, go_sem]
  refine .inl (cT.mono ?_)
  rintro e w6 ⟨⟨b, rfl, g0, g1⟩, k6⟩
  exact ⟨rfl, HP.out ⟨⟨b, rfl, g0, g1⟩, k6⟩⟩
set_option maxHeartbeats 2000000 in
theorem term_step {f : Nat} (ih : TermGood f) {w : World} {rb tb base : Nat} {t : Tok} {r : List Tok} {lv : Value} {l : List Item} (h : RdAt w rb tb (t :: r)) (hl : WRow base w lv l) (ho : TokOk t) (hk : t.kind = 2 ∨ t.kind = 1) (hE : EndsT (t :: r)) (hF : (t :: r).length ≤ f + 1) (hb : base ≤ w.heap.size) (hn : l.length + (t :: r).length ≤ 50000) (hd : ∀ k, lv.ownBlock = some k → k ≠ rb ∧ k ≠ tb) :
    Calls Tryz.prog 23 #[.pointer (some ⟨rb, 0, none⟩), lv] w (TermCame base rb tb w (t :: r) lv l (termF (f + 1) (t :: r))) := by
  have hn1 : l.length ≤ 50000 := by simp at hn; omega
  obtain ⟨R, hRR⟩ : ∃ R, termF (f + 1) (t :: r) = R := ⟨_, rfl⟩
  rw [hRR]
  have HR : Hid (termF (f + 1) (t :: r) = R) := hRR
  clear hRR
  have HT : Hid (TermGood f) := ih
  have HE : Hid (EndsT (t :: r)) := hE
  have HN : Hid (l.length + (t :: r).length ≤ 50000) := hn
  have HF : Hid ((t :: r).length ≤ f + 1) := hF
  clear ih hE hn hF
  obtain ⟨ao, cap, rfl⟩ : ∃ ao cap, lv = .slice ao l.length cap := row_shape hl
  go_enter Tryz.func23, Tryz.ntmps23
  go_upto_region 2 with (fail)
  have L0 := laid3 w rb (.slice ao l.length cap) l.length
  have K0 : Same0 w (((w.alloc (.cells #[.pointer (some ⟨rb, 0, none⟩)] 59)).alloc (.cells #[.slice ao l.length cap] 61)).alloc (.cells #[.int .i64 (l.length : Int)] 3)) := Kept.alloc (Kept.alloc (Kept.alloc (Kept.refl _ w) _) _) _
  obtain ⟨W, hW⟩ : ∃ W, (((w.alloc (.cells #[.pointer (some ⟨rb, 0, none⟩)] 59)).alloc (.cells #[.slice ao l.length cap] 61)).alloc (.cells #[.int .i64 (l.length : Int)] 3)) = W := ⟨_, rfl⟩
  rw [hW] at L0 K0 ⊢
  clear hW
  have hlt := K0.size
  have hlt2 := lt_of_at L0.n0
  have R0 := h.same K0
  have W0 := hl.same K0
  have bl := h.lt
  have hlown := fun k (e : (Value.slice ao l.length cap).ownBlock = some k) => (hl.own e).2
  clear h hl
  have s0 := cellAt L0.r0 0
  have s1 := cellAt L0.l0 0
  simp only [List.getElem?_toArray, List.getElem?_cons_zero] at s0 s1
  have cT : Calls Tryz.prog 52 #[.pointer (some ⟨rb, 0, none⟩), .slice (some ⟨W.heap.size, 0, none⟩) 2 2] (W.alloc (.cells #[.int .i64 2, .int .i64 1] 3)).drew fun e w' => e = .returned (aggT t) ∧ RdAt w' rb tb r ∧ Laid3 w w' rb (.slice ao l.length cap) l.length ∧ WRow base w' (.slice ao l.length cap) l ∧ Kept (fun i => i = rb) W w' := by
    have k1 : Same0 W (W.alloc (.cells #[.int .i64 2, .int .i64 1] 3)).drew := Kept.drew (Kept.alloc (Kept.refl _ W) _)
    refine (take_ok (R0.same k1) ((ints_two W 2 1).same (Kept.drew (Kept.refl _ _))) 2 (by simp) (by simp; omega)).mono ?_
    rintro e w' ⟨rfl, a, b⟩
    have k2 : Kept (fun i => i = rb) W w' := (Kept.mono k1 (fun _ _ f => f.elim)).trans b (fun _ _ s => s)
    exact ⟨rfl, a, L0.kept k2 (fun i h1 h2 e => by omega), W0.kept k2 (fun k e => (hd k e).1), k2⟩
  unfold aggT at cT
  have L1 : Laid3 w (W.alloc (.cells #[.int .i64 2, .int .i64 1] 3)) rb (.slice ao l.length cap) l.length := L0.kept (S := fun _ => False) (Kept.alloc (Kept.refl _ W) _) (fun _ _ _ f => f)
  have s0a := cellAt L1.r0 0
  have s1a := cellAt L1.l0 0
  simp only [List.getElem?_toArray, List.getElem?_cons_zero] at s0a s1a
  have hown := fun k e => (W0.own (k := k) e)
  have hownw : ∀ k, (Value.slice ao l.length cap).ownBlock = some k → k < w.heap.size := hlown
  have hbs : ∀ {w6 : World} {o : Obj}, Kept (fun i => i = rb) W w6 → base ≤ (w6.alloc o).heap.size := fun k => by have := k.size; simp only [World.size_alloc]; omega
  have L7f : ∀ {w6 w7 : World} {o : Obj}, Laid3 w w6 rb (.slice ao l.length cap) l.length → Kept (fun i => i = rb) W w6 → Kept (fun i => (Value.slice ao l.length cap).ownBlock = some i) (w6.alloc o) w7 → Laid3 w w7 rb (.slice ao l.length cap) l.length := fun a _ c => a.kept c.behind (fun i h1 h2 e => by have := hownw i e; omega)
  go_cut [] (fun wc => HeadPost w rb tb base (.slice ao l.length cap) l t r wc)
  case first =>
   go_region_law (first | (refine step_elem (by rfl) _ _ 61 116 _ 4 40 Tryz.underlying61 info_word (by rfl) (by omega) (by omega) (by rfl) base l.length (wordCells l) (.slice ao l.length cap) (by rfl) (World.ownsRow.alloc g2 _) w6.heap.size #[.int .i64 (t.kind : Int), .int .i64 (t.at' : Int), .string (txt t.text), .int .i64 0] (heap_alloc_new w6 _) rfl (by rfl) (by simp [Value.oneCell']) (by omega) (hbs k6) ?_; intro g gcap w7 hr7 hk7 hat7; have L7 := L7f g1 k6 hk7; have s0'' := cellAt L7.r0 0; have s1'' := cellAt L7.l0 0; have f1'' := frozenAt L7.l0 0; simp only [List.getElem?_toArray, List.getElem?_cons_zero] at s0'' s1'') | (refine step_call rfl cT (by simp [go_sem]) (v := .agg #[.int .i64 (t.kind : Int), .int .i64 (t.at' : Int), .string (txt t.text)]) ?_; rintro e w6 ⟨rfl, g0, g1, g2, k6⟩; refine ⟨rfl, ?_⟩; have s0' := cellAt g1.r0 0; have s1' := cellAt g1.l0 0; have L6 : Laid3 w (w6.alloc (.cells #[.int .i64 (t.kind : Int), .int .i64 (t.at' : Int), .string (txt t.text), .int .i64 0] 116)) rb (.slice ao l.length cap) l.length := g1.kept (S := fun _ => False) (Kept.alloc (Kept.refl _ w6) _) (fun _ _ _ f => f); have s1b := cellAt L6.l0 0; simp only [List.getElem?_toArray, List.getElem?_cons_zero] at s0' s1' s1b))
   all_goals
     go_wp2_with fail
     go_meet
     case rel => exact head_mid K0 k6 g0 g1 hr7 hk7 hat7 hd hownw bl
  case rest =>
    clear cT s0 s1 s0a s1a L1 L0 K0 R0 W0 hown hbs L7f
    obtain ⟨lv1, M, R1⟩ := hcut
    have hrow := M.row
    have hlen1 : (l ++ [(⟨t, 0⟩ : Item)]).length = l.length + 1 := by simp
    obtain ⟨ao1, cap1, hlv⟩ : ∃ ao cap, lv1 = .slice ao (l ++ [(⟨t, 0⟩ : Item)]).length cap := row_shape hrow
    subst hlv
    obtain ⟨g, hg, _, _, q0, _, _, _⟩ := hrow.get (i := l.length) (by simp)
    subst hg
    simp only [List.getElem_append_right (Nat.le_refl _), Nat.sub_self, List.getElem_cons_zero] at q0
    rw [hlen1] at M hrow
    have s0 := cellAt M.laid.r0 0
    have s1 := cellAt M.laid.l0 0
    have s2 := cellAt M.laid.n0 0
    simp only [List.getElem?_toArray, List.getElem?_cons_zero] at s0 s1 s2
    have HM : Hid (Mid w rb tb base (.slice ao l.length cap) l.length (l ++ [⟨t, 0⟩]) wc (.slice (some ⟨g, 0, none⟩) (l.length + 1) cap1)) := M
    clear M hrow hlen1 hlown hownw hd
    by_cases h2 : t.kind = 2
    · have e1 : termF (f + 1) (t :: r) = .ok ([⟨t, 0⟩], r) := by simp [termF, h2]
      have hq : ((t.kind : Int) == 1) = false := by rw [h2]; rfl
      have hE2 := HE.out.next (by omega)
      obtain rfl := HR.out.symm.trans e1
      clear e1 h2 hk HR
      go_wp2_with fail
      go_ret
      exact ⟨_, rfl, R1, HM.out.row, HM.out.out, HM.out.kept, hE2, by simp, by simp; omega⟩
    · have h1 : t.kind = 1 := by omega
      have hq : ((t.kind : Int) == 1) = true := by rw [h1]; rfl
      have hE2 := HE.out.next (by omega)
      cases r with
      | nil => exact absurd rfl hE2.ne
      | cons o q =>
        by_cases h4 : o.kind = 4
        · have hE3 := hE2.next (by omega)
          have hFF := HF.out
          have hNN := HN.out
          simp only [List.length_cons] at hFF hNN
          have hqp : 0 < q.length := List.length_pos_iff.2 hE3.ne
          obtain ⟨m, rfl⟩ : ∃ m, f = m + 1 := ⟨f - 1, by omega⟩
          have e1 := HR.out.symm.trans (term_open h1 h4)
          clear HR
          have eg := enters_of Tryz.func55 (by kernel_rfl) rfl
          have c1 := skip_yes R1 4 h4
          have hA0 : ∀ wd, Kept (fun i => i = rb) wc wd → ArgA w rb tb base (.slice ao l.length cap) l.length (l ++ [⟨t, 0⟩]) wd := fun wd k => ⟨⟨by simp, by simp⟩, _, HM.out.rd k⟩
          have c2 : Hid (∀ wd, RdAt wd rb tb q → Kept (fun i => i = rb) wc wd → Calls Tryz.prog 54 #[.pointer (some ⟨rb, 0, none⟩), .int .i64 6, .func (.func 55) #[] #[.pointer (some ⟨w.heap.size, 0, none⟩), .pointer (some ⟨w.heap.size + 1, 0, none⟩), .pointer (some ⟨w.heap.size + 1 + 1, 0, none⟩)]] wd (Comes List.length (l.length + 1 + q.length) w.heap.size rb tb q (ArgA w rb tb base (.slice ao l.length cap) l.length) (fun w' => Kept (fun i => i = rb ∨ (Value.slice ao l.length cap).ownBlock = some i) w w') (argsC l [] ⟨t, 0⟩ (argsF (termF (m + 1)) (m + 1) q)))) := by
            intro wd hR hK
            rw [← row_args]
            exact row_any (sign := 6) eg (arg_reads HT.out hb (B := l.length + 1 + q.length) (by omega)) (fun a x y ⟨p1, lv2, p2⟩ k => ⟨p1, lv2, p2.rd k⟩) (by omega) m (by omega) hE3 (by omega) (by simp) hR (hA0 wd hK)
          have HL : Hid (q.length + 2 ≤ m + 2 ∧ l.length + (q.length + 2) ≤ 50000) := ⟨by omega, by omega⟩
          have hmf : ∀ (fn : Fn) (first cap : Array Value) (w : World), (Instr.makeFunc fn first cap).run Tryz.prog w = .ok (.func fn first cap) w := fun _ _ _ _ => rfl
          clear h1 h2 hk h4 hA0 eg hFF hNN HN HF R1 HE hE2 ho
          cases hX : argsF (termF (m + 1)) (m + 1) q with
          | error p =>
            rw [hX] at c2 e1
            subst e1
            clear hX
            go_wp2_with (first | (go_at_call 53; refine c1.mono ?_; rintro e w1 ⟨rfl, k1, k2⟩; have s0' := cellAt (HM.out.rd k2).laid.r0 0; simp only [List.getElem?_toArray, List.getElem?_cons_zero] at s0') | (go_at_call 54; refine (c2.out _ k1 k2).mono ?_; rintro e w2 ⟨⟨b, rfl, g0, g1⟩, k6⟩))
            exact ⟨rfl, ⟨b, rfl, g0, g1⟩, k6⟩
          | ok v =>
            obtain ⟨is, k, r2⟩ := v
            rw [hX] at c2 e1
            clear hX
            cases r2 with
            | nil =>
              go_wp2_with (first | (go_at_call 53; refine c1.mono ?_; rintro e w1 ⟨rfl, k1, k2⟩; have s0' := cellAt (HM.out.rd k2).laid.r0 0; simp only [List.getElem?_toArray, List.getElem?_cons_zero] at s0') | (go_at_call 54; refine (c2.out _ k1 k2).mono ?_; rintro e w2 ⟨_, _, _, p3, _⟩; exact absurd rfl p3.ne))
            | cons c u =>
              by_cases h5 : c.kind = 5
              · have e2 : R = .ok (⟨t, k⟩ :: is, u) := by rw [e1]; simp [termC, h5]
                clear e1
                subst e2
                go_wp2_with (first | (go_at_call 53; refine c1.mono ?_; rintro e w1 ⟨rfl, k1, k2⟩; have s0' := cellAt (HM.out.rd k2).laid.r0 0; simp only [List.getElem?_toArray, List.getElem?_cons_zero] at s0') | (go_at_call 54; refine (c2.out _ k1 k2).mono ?_; rintro e w2 ⟨rfl, p1, ⟨_, lv2, p2⟩, p3, p4, p5⟩; have s0'' := cellAt p2.laid.r0 0; simp only [List.getElem?_toArray, List.getElem?_cons_zero] at s0'') | (go_at_call 52; refine (take1_ok p1 5 (by omega)).mono ?_; rintro e w3 ⟨rfl, g1, g2⟩; have s1'' := cellAt (p2.rd g2).laid.l0 0; simp only [List.getElem?_toArray, List.getElem?_cons_zero] at s1''))
                go_ret
                have M3 := p2.rd g2
                have hLL := HL.out
                simp only [List.nil_append, List.length_append, List.length_cons] at p4 p5
                have hr3 := M3.row
                rw [Nat.zero_add, List.nil_append] at hr3
                exact ⟨_, rfl, g1, hr3, M3.out, M3.kept, p3.next (by omega), by simp; omega, by simp; omega⟩
              · have e2 : R = .error c.at' := by rw [e1]; simp [termC, h5]
                clear e1
                subst e2
                go_wp2_with (first | (go_at_call 53; refine c1.mono ?_; rintro e w1 ⟨rfl, k1, k2⟩; have s0' := cellAt (HM.out.rd k2).laid.r0 0; simp only [List.getElem?_toArray, List.getElem?_cons_zero] at s0') | (go_at_call 54; refine (c2.out _ k1 k2).mono ?_; rintro e w2 ⟨rfl, p1, ⟨_, lv2, p2⟩, p3, p4, p5⟩; have s0'' := cellAt p2.laid.r0 0; simp only [List.getElem?_toArray, List.getElem?_cons_zero] at s0'') | (go_at_call 52; refine (take1_bad p1 5 (by omega)).mono ?_; rintro e w3 ⟨⟨b, rfl, g0, g1⟩, g2⟩))
                exact ⟨rfl, ⟨b, rfl, by have := p2.kept.size; omega, g1⟩, p2.kept.trans g2 (fun _ _ f => f.elim)⟩
        · have e1 := HR.out.symm.trans (term_name h1 h4)
          clear HR
          have c1 := skip_no R1 4 h4
          subst e1
          clear h1 h2 hk h4
          go_wp2_with (first | (go_at_call 53; refine c1.mono ?_; rintro e w1 ⟨rfl, rfl⟩))
          go_ret
          exact ⟨_, rfl, R1, HM.out.row, HM.out.out, HM.out.kept, hE2, by simp, by simp; omega⟩
theorem term_good (f : Nat) : TermGood f := by
  induction f with
  | zero =>
    intro rb tb base ts lv acc w hl hE
    cases ts with
    | nil => exact absurd rfl hE.ne
    | cons t r => simp at hl
  | succ f ih =>
    intro rb tb base ts lv acc w hl hE hR hW hb hn hd
    cases ts with
    | nil => exact absurd rfl hE.ne
    | cons t r =>
      by_cases hk : t.kind = 2 ∨ t.kind = 1
      · exact term_step ih hR hW hE.ok hk hE hl hb hn hd
      · have e : termF (f + 1) (t :: r) = .error t.at' := by
          simp only [termF]
          rw [if_neg (by omega), if_neg (by omega)]
        rw [e]
        exact term_bad (f := f) hR hW hk
end Go.Proofs.YtbjfpfnfbgncnaaGreatDoor
