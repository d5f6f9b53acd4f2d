import Derived.Test.YtlemcinjalepkaaGreatGTreeCounts24
/- The walks of pass with the function of Rules, and of Rules. -/
namespace Go.Proofs.YtlemcinjalepkaaGreat
set_option maxRecDepth 100000
set_option linter.unusedVariables false
open Go.RowKit
attribute [local go_sem ↓] Go.wp_at_zero Go.wp_at_succ
/-- The rules of a case tree's leaves. -/
def rulesF : (n : Nat) → Tr n → List Int
  | 0, _ => []
  | n + 1, (k, r, p, l) => if k = 1 then [r] else if k = 2 then l.flatMap (fun x => rulesF n x.2) else []
/-- No node has too many kids. -/
def SmK : (n : Nat) → Tr n → Prop
  | 0, _ => True
  | n + 1, (k, r, p, l) => l.length ≤ 1000000000 ∧ ∀ i (h : i < l.length), SmK n l[i].2
/-- The list that is gathered. -/
structure RAt (w : World) (lb base : Nat) (lv : Value) (out : List Int) : Prop where
  blk : w.heap[lb]? = some (.cells #[lv] 32 (0, 0))
  row : Row base w lv out
def InS (lb : Nat) (lv : Value) (q : Nat) : Prop := q = lb ∨ lv.ownBlock = some q
theorem RAt.far {w : World} {lb base : Nat} {lv : Value} {out : List Int} (h : RAt w lb base lv out) : ¬ lv.ownBlock = some lb := fun e => by
  obtain ⟨c, hc⟩ := own_blk h.row e
  rw [h.blk] at hc; cases hc
theorem RAt.lt {w : World} {lb base : Nat} {lv : Value} {out : List Int} (h : RAt w lb base lv out) : lb < w.heap.size ∧ ∀ q, lv.ownBlock = some q → q < w.heap.size := ⟨lt_of_at h.blk, fun q e => by obtain ⟨c, hc⟩ := own_blk h.row e; exact lt_of_at hc⟩
theorem RAt.same {w w' : World} {lb base : Nat} {lv : Value} {out : List Int} (h : RAt w lb base lv out) (hk : Same0 w w') : RAt w' lb base lv out := ⟨hk.at0 h.blk, hk.row h.row (fun _ _ f => f)⟩
/-- What a step of the gathering leaves. -/
def Gath (w : World) (lb base : Nat) (lv : Value) (out : List Int) (e : Ending) (w' : World) : Prop :=
  ∃ lv', e = .returned (.tuple #[]) ∧ RAt w' lb base lv' out ∧ (∀ q, lv'.ownBlock = some q → lv.ownBlock = some q ∨ w.heap.size ≤ q) ∧ Kept (InS lb lv) w w'
set_option maxHeartbeats 2000000 in
theorem rshow_any {w : World} {lb base : Nat} {lv : Value} {out : List Int} (h : RAt w lb base lv out) (hb : base ≤ w.heap.size) (hl : out.length ≤ 4000000) (k r : Int) (po ko : Option Addr) (pl pc kl kc : Nat) :
    Calls Tryz.prog 59 #[.agg #[.int .i64 k, .int .i64 r, .slice po pl pc, .slice ko kl kc], .pointer (some ⟨lb, 0, none⟩)] w (Gath w lb base lv (out ++ if k = 1 then [r] else [])) := by
  obtain ⟨lo, lc, rfl⟩ := row_shape h.row
  obtain ⟨W1, hW1⟩ : ∃ W1, W1 = w.alloc (.cells #[.int .i64 k, .int .i64 r, .slice po pl pc, .slice ko kl kc] 35) := ⟨_, rfl⟩
  have KW : Same0 w W1 := by rw [hW1]; exact (Kept.refl _ w).alloc _
  have h1 := h.same KW
  have hlt := h.lt
  have c0 : W1.cell? ⟨w.heap.size, 0, none⟩ = some (.int .i64 k) := cellAt (show W1.heap[w.heap.size]? = some (.cells #[.int .i64 k, .int .i64 r, .slice po pl pc, .slice ko kl kc] 35 (0, 0)) by rw [hW1]; exact heap_alloc_new w _) 0
  have c1 : W1.cell? ⟨w.heap.size, 1, none⟩ = some (.int .i64 r) := cellAt (show W1.heap[w.heap.size]? = some (.cells #[.int .i64 k, .int .i64 r, .slice po pl pc, .slice ko kl kc] 35 (0, 0)) by rw [hW1]; exact heap_alloc_new w _) 1
  have c2 := cellAt h1.blk 0
  simp only [List.getElem?_toArray, List.getElem?_cons_zero] at c2
  by_cases hk : k = 1
  · rw [if_pos hk]
    have hke : (k == 1) = true := by simpa using hk
    have FIN : Hid (∀ v5 w5, Row base w5 v5 (out ++ [r]) → Kept (fun q => (Value.slice lo out.length lc).ownBlock = some q) W1 w5 → (∀ q, v5.ownBlock = some q → (Value.slice lo out.length lc).ownBlock = some q ∨ W1.heap.size ≤ q) → (w5.cell? ⟨lb, 0, none⟩ = some (.slice lo out.length lc) ∧ w5.frozen? ⟨lb, 0, none⟩ = false) ∧ Hid (Gath w lb base (.slice lo out.length lc) (out ++ [r]) (.returned (.tuple #[])) (w5.setCell ⟨lb, 0, none⟩ v5))) := by
      intro v5 w5 r5 k5 o5
      have b5 := k5.at (KW.at0 h.blk) h.far
      have ks : Kept (fun q => q = lb) w5 (w5.setCell ⟨lb, 0, none⟩ v5) := Kept.setCell (p := ⟨lb, 0, none⟩) (Kept.refl (fun q => q = lb) w5) (fun _ => rfl) _
      refine ⟨⟨cellAt b5 0, frozenAt b5 0⟩, v5, rfl, ⟨setAt b5 0 _, ks.row r5 (fun q e f => ?_)⟩, fun q e => (o5 q e).imp id (fun z => Nat.le_trans KW.size z), Kept.trans (Kept.trans KW.mono' k5 (fun _ _ e => .inr e)) ks (fun _ _ e => .inl e)⟩
      obtain ⟨cu, hc⟩ := own_blk r5 e
      subst f
      rw [b5] at hc; cases hc
    have hrow := h1.row
    have hb1 : base ≤ W1.heap.size := Nat.le_trans hb KW.size
    have hsz : (out.length + 1) * 8 ≤ 140737488355328 := by omega
    clear h h1 hlt hk
    go_enter Tryz.func59, Tryz.ntmps59
    go_upto_region 1 with fail
    rw [← hW1]
    clear hW1
    go_wp2_with (first | (at_builtin; refine wpList_push rfl _ _ 32 rfl Tryz.underlying32 base out (.slice lo out.length lc) rfl hrow r rfl hb1 hsz ?_; intro g cap w5 r5 k5 o5; obtain ⟨⟨y1, y2⟩, FF⟩ := FIN.out _ w5 r5 k5 (fun q e => by simp only [Value.ownBlock, Option.some.injEq] at e; subst e; exact o5)))
    go_end0
    exact FF.out
  · rw [if_neg hk, List.append_nil]
    have hke : (k == 1) = false := by simpa using hk
    go_enter Tryz.func59, Tryz.ntmps59
    go_upto_region 1 with fail
    rw [← hW1]
    clear hW1
    go_wp2_with fail
    go_end0
    exact ⟨_, rfl, h1, fun q e => .inl e, KW.mono'⟩
def PassIH (n : Nat) : Prop := ∀ (w : World) (v : Value) (t : Tr n) (B : Nat → Prop) (lb base : Nat) (lv : Value) (out : List Int), CsB B w n v t → RAt w lb base lv out → base ≤ w.heap.size → (∀ b, B b → ¬ InS lb lv b) → (out ++ rulesF n t).length ≤ 4000000 → SmK n t →
  Calls Tryz.prog 58 #[v, .func (.func 59) #[] #[.pointer (some ⟨lb, 0, none⟩)]] w (Gath w lb base lv (out ++ rulesF n t))
theorem flatMap_take {α : Type} (f : α → List Int) (l : List α) {j : Nat} (h : j < l.length) : (l.take (j + 1)).flatMap f = (l.take j).flatMap f ++ f l[j] := by
  rw [List.take_add_one, List.getElem?_eq_getElem h]
  show ((l.take j) ++ [l[j]]).flatMap f = _
  rw [List.flatMap_append, List.flatMap_cons, List.flatMap_nil, List.append_nil]
theorem flatMap_le {α : Type} (f : α → List Int) (l : List α) (j : Nat) : ((l.take j).flatMap f).length ≤ (l.flatMap f).length := by
  have e : l.flatMap f = (l.take j).flatMap f ++ (l.drop j).flatMap f := by rw [← List.flatMap_append, List.take_append_drop]
  rw [e]; simp
set_option maxHeartbeats 8000000 in
theorem pass_step {n : Nat} (IH : PassIH n) : PassIH (n + 1) := by
  intro w va t B lb base lv out ha hR hb hB hlen hsm
  obtain ⟨k, r, p, l⟩ := t
  obtain ⟨po, pc, ko, kc, rfl, a2, a3, a4, a5, a6⟩ := ha
  obtain ⟨hl9, hsk⟩ := hsm
  obtain ⟨W1, hW1⟩ : ∃ W1, W1 = w.alloc (.cells #[.int .i64 k, .int .i64 r, .slice po p.length pc, .slice ko l.length kc] 35) := ⟨_, rfl⟩
  have KW : Same0 w W1 := by rw [hW1]; exact (Kept.refl _ w).alloc _
  have hlt := hR.lt
  have hz1 : w.heap.size < W1.heap.size := by rw [hW1]; simp
  have BX : Hid (∀ ww, Kept (InS lb lv) W1 ww → ww.cell? ⟨w.heap.size, 0, none⟩ = some (.int .i64 k) ∧ ww.cell? ⟨w.heap.size, 3, none⟩ = some (.slice ko l.length kc)) := fun ww hk => by
    have h0 : W1.heap[w.heap.size]? = some (.cells #[.int .i64 k, .int .i64 r, .slice po p.length pc, .slice ko l.length kc] 35 (0, 0)) := by rw [hW1]; exact heap_alloc_new w _
    have h1 := hk.at h0 (fun e => by
      rcases e with e | e
      · omega
      · have := hlt.2 _ e; omega)
    exact ⟨cellAt h1 0, cellAt h1 3⟩
  have c0 : W1.cell? ⟨w.heap.size, 0, none⟩ = some (.int .i64 k) ∧ W1.cell? ⟨w.heap.size, 1, none⟩ = some (.int .i64 r) ∧ W1.cell? ⟨w.heap.size, 2, none⟩ = some (.slice po p.length pc) ∧ W1.cell? ⟨w.heap.size, 3, none⟩ = some (.slice ko l.length kc) := by
    have h0 : W1.heap[w.heap.size]? = some (.cells #[.int .i64 k, .int .i64 r, .slice po p.length pc, .slice ko l.length kc] 35 (0, 0)) := by rw [hW1]; exact heap_alloc_new w _
    exact ⟨cellAt h0 0, cellAt h0 1, cellAt h0 2, cellAt h0 3⟩
  have hol : out.length ≤ 4000000 := by simp at hlen; omega
  have C1 := rshow_any (hR.same KW) (Nat.le_trans hb KW.size) hol k r po ko p.length pc l.length kc
  obtain ⟨x0, x1, x2, x3⟩ := c0
  by_cases hk2 : k = 2
  · subst hk2
    have e1 : rulesF (n + 1) (2, r, p, l) = l.flatMap (fun x => rulesF n x.2) := by simp [rulesF]
    rw [e1] at hlen ⊢
    rw [if_neg (by omega), List.append_nil] at C1
    have CH : Hid (Calls Tryz.prog 59 #[.agg #[.int .i64 2, .int .i64 r, .slice po p.length pc, .slice ko l.length kc], .pointer (some ⟨lb, 0, none⟩)] W1 (Gath W1 lb base lv out)) := C1
    have D1 := CH.out
    unfold Gath at D1
    have H6 : Hid (l = [] ∨ ∃ b off, ko = some ⟨b, off, none⟩ ∧ B b ∧ b < w.heap.size ∧ ∀ i (h : i < l.length), ∃ c0 c1 c2 c3, w.cell? ⟨b, off + i * 5, none⟩ = some (.int .i64 l[i].1) ∧ w.cell? ⟨b, off + i * 5 + 1, none⟩ = some c0 ∧ w.cell? ⟨b, off + i * 5 + 2, none⟩ = some c1 ∧ w.cell? ⟨b, off + i * 5 + 3, none⟩ = some c2 ∧ w.cell? ⟨b, off + i * 5 + 4, none⟩ = some c3 ∧ CsB B w n (.agg #[c0, c1, c2, c3]) l[i].2) := a6
    have HSK : Hid (∀ i (h : i < l.length), SmK n l[i].2) := hsk
    have HB : Hid (∀ b, B b → ¬ InS lb lv b) := hB
    have HIH : Hid (PassIH n) := IH
    have HLE : Hid ((out ++ l.flatMap (fun x => rulesF n x.2)).length ≤ 4000000) := hlen
    clear C1 CH a6 hsk hB IH a2 a3 a4 hR hlen e1 hol
    go_enter Tryz.func58, Tryz.ntmps58
    go_upto_region 1 with fail
    rw [← hW1]
    clear hW1
    go_upto_region 2 with (first | (go_at_call 59; refine D1.mono ?_; rintro e w2 ⟨lv2, rfl, r2, o2, k2⟩))
    obtain ⟨y0, y3⟩ := BX.out w2 k2
    clear x0 x1 x2 x3 D1
    have R2 : Hid (RAt w2 lb base lv2 (out ++ (l.take 0).flatMap (fun x => rulesF n x.2))) := by simpa [Hid] using r2
    have O2 : Hid (∀ q, lv2.ownBlock = some q → lv.ownBlock = some q ∨ W1.heap.size ≤ q) := o2
    clear r2 o2
    go_wp2_with fail
    go_loopw [15] (fun i wr => ∃ (j : Nat) (lvk : Value), j ≤ l.length ∧ i = .int .i64 (j : Int) ∧ Hid (RAt wr lb base lvk (out ++ (l.take j).flatMap (fun x => rulesF n x.2))) ∧ Hid (∀ q, lvk.ownBlock = some q → lv.ownBlock = some q ∨ W1.heap.size ≤ q) ∧ Kept (InS lb lv) W1 wr) (fun i _ => l.length - (intOf i).toNat)
    case atStart => exact ⟨0, lv2, Nat.zero_le _, rfl, R2, O2, k2⟩
    case round =>
      clear R2 O2 k2 y0 y3
      obtain ⟨j, lvk, hj, rfl, hRk, hOk, hw⟩ := hrel
      by_cases hjl : j < l.length
      · rcases H6.out with e | ⟨ab, aoff, rfl, hBab, hab, hca⟩
        · subst e; simp at hjl
        obtain ⟨c0, c1, c2, c3, p0, p1, p2, p3, p4, p5⟩ := hca j hjl
        obtain ⟨e0, e1, e2, e3, e4, e5, e6, e7, ea⟩ := p5.shape
        simp only [Value.agg.injEq, Array.mk.injEq, List.cons.injEq, and_true] at ea
        obtain ⟨rfl, rfl, rfl, rfl⟩ := ea
        have kw : Kept (InS lb lv) w wr := Kept.trans KW.mono' hw (fun _ _ z => z)
        have ta : ∀ o v, w.cell? ⟨ab, o, none⟩ = some v → wr.cell? ⟨ab, o, none⟩ = some v := fun o v e => (kw.cell (p := ⟨ab, o, none⟩) hab (HB.out ab hBab)).trans e
        have p0 := ta _ _ p0
        have p1 := ta _ _ p1
        have p2 := ta _ _ p2
        have p3 := ta _ _ p3
        have p4 := ta _ _ p4
        have i1 : (0 : Int) ≤ (j : Int) := by omega
        have i2 : (j : Int) < (l.length : Int) := by omega
        have ka : Same0 wr (wr.alloc (.cells #[.int .i64 l[j].1, .int .i64 e0, .int .i64 e1, .slice e2 e3 e4, .slice e5 e6 e7] 85)) := (Kept.refl _ _).alloc _
        have p5' : CsB (fun b => B b ∧ b < w.heap.size) w n (.agg #[.int .i64 e0, .int .i64 e1, .slice e2 e3 e4, .slice e5 e6 e7]) l[j].2 := CsB.mono (fun b hb q => ⟨q, hb⟩) p5
        have p6 := (CsB.kept kw (fun b q => HB.out b q.1) p5').same ka
        have zw := kw.size
        have CC := HIH.out _ _ _ _ lb base lvk (out ++ (l.take j).flatMap (fun x => rulesF n x.2)) p6 (hRk.out.same ka) (Nat.le_trans hb (Nat.le_trans zw ka.size)) (fun b q f => by
          rcases f with f | f
          · exact HB.out b q.1 (.inl f)
          · rcases hOk.out b f with g | g
            · exact HB.out b q.1 (.inr g)
            · have := q.2; omega) (by
          have := HLE.out
          have h2 := flatMap_le (fun x : Int × Tr n => rulesF n x.2) l (j + 1)
          rw [flatMap_take _ _ hjl] at h2
          simp only [List.length_append] at this h2 ⊢
          omega) (HSK.out j hjl)
        have FIN : Hid (∀ e w5, Gath (wr.alloc (.cells #[.int .i64 l[j].1, .int .i64 e0, .int .i64 e1, .slice e2 e3 e4, .slice e5 e6 e7] 85)) lb base lvk ((out ++ (l.take j).flatMap (fun x => rulesF n x.2)) ++ rulesF n l[j].2) e w5 → e = .returned (.tuple #[]) ∧ Hid (∃ lv5, Hid (RAt w5 lb base lv5 (out ++ (l.take (j + 1)).flatMap (fun x => rulesF n x.2))) ∧ Hid (∀ q, lv5.ownBlock = some q → lv.ownBlock = some q ∨ W1.heap.size ≤ q) ∧ Kept (InS lb lv) W1 w5)) := fun e w5 ⟨lv5, f1, f2, f3, f4⟩ => by
          have zz := hw.size
          refine ⟨f1, lv5, ?_, fun q z => ?_, Kept.trans (Kept.trans hw ka.mono' (fun _ _ z => z)) f4 (fun q hq z => ?_)⟩
          · show RAt _ _ _ _ _
            rw [flatMap_take _ _ hjl, ← List.append_assoc]; exact f2
          · rcases f3 q z with g | g
            · exact hOk.out q g
            · have := ka.size; exact .inr (by omega)
          · rcases z with z | z
            · exact .inl z
            · rcases hOk.out q z with g | g
              · exact .inr g
              · omega
        clear hca p5 p5' p6 ta hRk hOk kw
        go_wp2_with (first | (go_at_call 58; refine CC.mono ?_; intro e w5 h5; obtain ⟨rfl, FF⟩ := FIN.out e w5 h5))
        obtain ⟨lv5, z1, z2, z3⟩ := FF.out
        exact ⟨⟨j + 1, lv5, by omega, by go_num, z1, z2, z3⟩, by simp [intOf]; omega⟩
      · obtain rfl : j = l.length := by omega
        have FIN : Hid (Gath w lb base lv (out ++ l.flatMap (fun x => rulesF n x.2)) (.returned (.tuple #[])) wr) := by
          have := hRk.out
          rw [List.take_length] at this
          exact ⟨lvk, rfl, this, fun q z => (hOk.out q z).imp id (fun y => by omega), Kept.trans KW.mono' hw (fun _ _ z => z)⟩
        clear hRk hOk
        go_wp2_with fail
        go_end0
        exact FIN.out
  · have e1 : rulesF (n + 1) (k, r, p, l) = if k = 1 then [r] else [] := by simp [rulesF, hk2]
    rw [e1]
    have hke : (k == 2) = false := by simpa using hk2
    have FIN : Hid (∀ e w2, Gath W1 lb base lv (out ++ if k = 1 then [r] else []) e w2 → e = .returned (.tuple #[]) ∧ Kept (InS lb lv) W1 w2 ∧ Hid (Gath w lb base lv (out ++ if k = 1 then [r] else []) (.returned (.tuple #[])) w2)) := fun e w2 ⟨lv', e1, e2, e3, e4⟩ => ⟨e1, e4, lv', rfl, e2, fun q z => (e3 q z).imp id (fun y => by omega), Kept.trans KW.mono' e4 (fun _ _ z => z)⟩
    generalize (out ++ if k = 1 then [r] else []) = OUT at *
    clear a6 IH a2 a3 a4 hB hsk hlen e1
    go_enter Tryz.func58, Tryz.ntmps58
    go_upto_region 1 with fail
    rw [← hW1]
    clear hW1
    go_upto_region 2 with (first | (go_at_call 59; refine C1.mono ?_; intro e w2 h2; obtain ⟨rfl, k2, FF⟩ := FIN.out e w2 h2))
    obtain ⟨y0, y3⟩ := BX.out w2 k2
    go_wp2_with fail
    go_end0
    exact FF.out
theorem pass_any : ∀ n, PassIH n
  | 0 => fun w v t B lb base lv out h => h.elim
  | n + 1 => pass_step (pass_any n)
set_option maxHeartbeats 2000000 in
theorem trules_any {w : World} {n : Nat} {v : Value} {t : Tr n} (h : CsB (fun b => b < w.heap.size) w n v t) (hl : (rulesF n t).length ≤ 4000000) (hs : SmK n t) :
    Calls Tryz.prog 20 #[v] w fun e w' => ∃ lv, e = .returned lv ∧ Row w.heap.size w' lv (rulesF n t) ∧ Same0 w w' := by
  obtain ⟨k, r, po, pl, pc, ko, kl, kc, rfl⟩ := h.shape
  obtain ⟨W1, hW1⟩ : ∃ W1, W1 = (w.alloc (.cells #[.int .i64 k, .int .i64 r, .slice po pl pc, .slice ko kl kc] 35)).alloc (.cells #[.slice none 0 0] 32) := ⟨_, rfl⟩
  have KW : Same0 w W1 := by rw [hW1]; exact ((Kept.refl _ w).alloc _).alloc _
  have hz1 : W1.heap.size = w.heap.size + 1 + 1 := by rw [hW1]; simp
  have hb : W1.heap[w.heap.size + 1]? = some (.cells #[.slice none 0 0] 32 (0, 0)) := by rw [hW1]; exact heap_al_al _ _ _
  have h0 : W1.heap[w.heap.size]? = some (.cells #[.int .i64 k, .int .i64 r, .slice po pl pc, .slice ko kl kc] 35 (0, 0)) := by rw [hW1]; exact heap_alloc2_old _ _ _
  have x0 := cellAt h0 0
  have x1 := cellAt h0 1
  have x2 := cellAt h0 2
  have x3 := cellAt h0 3
  simp only [List.getElem?_toArray, List.getElem?_cons_zero, List.getElem?_cons_succ] at x0 x1 x2 x3
  have C := pass_any n W1 _ t _ (w.heap.size + 1) w.heap.size (.slice none 0 0) [] (h.same KW) ⟨hb, World.ownsRow_nil _ _ _ _⟩ KW.size (fun b q f => by
    rcases f with f | f
    · omega
    · cases f) (by simpa using hl) hs
  have CH : Hid (∀ e w2, Gath W1 (w.heap.size + 1) w.heap.size (.slice none 0 0) ([] ++ rulesF n t) e w2 → ∃ lo lc, e = .returned (.tuple #[]) ∧ w2.cell? ⟨w.heap.size + 1, 0, none⟩ = some (.slice lo (rulesF n t).length lc) ∧ Hid (Row w.heap.size w2 (.slice lo (rulesF n t).length lc) (rulesF n t) ∧ Same0 w w2)) := fun e w2 ⟨lv, e1, e2, e3, e4⟩ => by
    have hr := e2.row
    rw [List.nil_append] at hr
    obtain ⟨lo, lc, rfl⟩ := row_shape hr
    have hc := cellAt e2.blk 0
    exact ⟨lo, lc, e1, hc, hr, Kept.trans KW e4 (fun i hi z => by
      rcases z with z | z
      · omega
      · cases z)⟩
  generalize (rulesF n t) = OUT at *
  clear h hb h0 hl hs hz1
  go_enter Tryz.func20, Tryz.ntmps20
  go_upto_region 2 with fail
  rw [← hW1]
  clear hW1
  go_wp2_with (first | (go_at_call 58; refine C.mono ?_; intro e w2 h2; obtain ⟨lo, lc, rfl, c2, FF⟩ := CH.out e w2 h2))
  go_ret
  exact ⟨_, rfl, FF.out.1, FF.out.2⟩
end Go.Proofs.YtlemcinjalepkaaGreat
/- The walk of ref08.Rules. -/
namespace Go.Proofs.YtlemcinjalepkaaGreat
set_option maxRecDepth 100000
set_option linter.unusedVariables false
open Go.RowKit
attribute [local go_sem ↓] Go.wp_at_zero Go.wp_at_succ
/-- What is handed on. -/
def GathV (w : World) (base : Nat) (lv : Value) (out : List Int) (e : Ending) (w' : World) : Prop :=
  ∃ lv', e = .returned lv' ∧ Row base w' lv' out ∧ (∀ q, lv'.ownBlock = some q → lv.ownBlock = some q ∨ w.heap.size ≤ q) ∧ Kept (fun q => lv.ownBlock = some q) w w'
def RIH (n : Nat) : Prop := ∀ (w : World) (v : Value) (t : Tr n) (B : Nat → Prop) (base : Nat) (lv : Value) (out : List Int), CsB B w n v t → Row base w lv out → base ≤ w.heap.size → (∀ b, B b → lv.ownBlock ≠ some b) → (out ++ rulesF n t).length ≤ 4000000 → SmK n t →
  Calls Tryz.prog 21 #[v, lv] w (GathV w base lv (out ++ rulesF n t))
theorem row_lt8 {base : Nat} {w : World} {lv : Value} {out : List Int} (h : Row base w lv out) : ∀ q, lv.ownBlock = some q → q < w.heap.size := fun q e => by obtain ⟨c, hc⟩ := own_blk h e; exact lt_of_at hc
set_option maxHeartbeats 8000000 in
theorem rr_step {n : Nat} (IH : RIH n) : RIH (n + 1) := by
  intro w va t B base lv out ha hR hb hB hlen hsm
  obtain ⟨k, r, p, l⟩ := t
  obtain ⟨po, pc, ko, kc, rfl, a2, a3, a4, a5, a6⟩ := ha
  obtain ⟨hl9, hsk⟩ := hsm
  obtain ⟨lo, lc, rfl⟩ := row_shape hR
  obtain ⟨W1, hW1⟩ : ∃ W1, W1 = w.alloc (.cells #[.int .i64 k, .int .i64 r, .slice po p.length pc, .slice ko l.length kc] 35) := ⟨_, rfl⟩
  have KW : Same0 w W1 := by rw [hW1]; exact (Kept.refl _ w).alloc _
  have hlt := row_lt8 hR
  have hz1 : w.heap.size < W1.heap.size := by rw [hW1]; simp
  have BX : Hid (∀ ww, Kept (fun q => (Value.slice lo out.length lc).ownBlock = some q) W1 ww → ww.cell? ⟨w.heap.size, 0, none⟩ = some (.int .i64 k) ∧ ww.cell? ⟨w.heap.size, 3, none⟩ = some (.slice ko l.length kc)) := fun ww hk => by
    have h0 : W1.heap[w.heap.size]? = some (.cells #[.int .i64 k, .int .i64 r, .slice po p.length pc, .slice ko l.length kc] 35 (0, 0)) := by rw [hW1]; exact heap_alloc_new w _
    have h1 := hk.at h0 (fun e => by have := hlt _ e; omega)
    exact ⟨cellAt h1 0, cellAt h1 3⟩
  have c0 : W1.cell? ⟨w.heap.size, 0, none⟩ = some (.int .i64 k) ∧ W1.cell? ⟨w.heap.size, 1, none⟩ = some (.int .i64 r) ∧ W1.cell? ⟨w.heap.size, 3, none⟩ = some (.slice ko l.length kc) := by
    have h0 : W1.heap[w.heap.size]? = some (.cells #[.int .i64 k, .int .i64 r, .slice po p.length pc, .slice ko l.length kc] 35 (0, 0)) := by rw [hW1]; exact heap_alloc_new w _
    exact ⟨cellAt h0 0, cellAt h0 1, cellAt h0 3⟩
  obtain ⟨x0, x1, x3⟩ := c0
  have hR1 : Row base W1 (.slice lo out.length lc) out := KW.row hR (fun _ _ f => f)
  have hb1 : base ≤ W1.heap.size := Nat.le_trans hb KW.size
  by_cases hk1 : k = 1
  · subst hk1
    have e1 : rulesF (n + 1) (1, r, p, l) = [r] := by simp [rulesF]
    rw [e1] at hlen ⊢
    have hsz : (out.length + 1) * 8 ≤ 140737488355328 := by simp at hlen; omega
    have FIN : Hid (∀ g cap w5, Row base w5 (.slice (some ⟨g, 0, none⟩) (out.length + 1) cap) (out ++ [r]) → Kept (fun q => (Value.slice lo out.length lc).ownBlock = some q) W1 w5 → ((Value.slice lo out.length lc).ownBlock = some g ∨ W1.heap.size ≤ g) → GathV w base (.slice lo out.length lc) (out ++ [r]) (.returned (.slice (some ⟨g, 0, none⟩) (out.length + 1) cap)) w5) := fun g cap w5 r5 k5 o5 => ⟨_, rfl, r5, fun q e => by
      simp only [Value.ownBlock, Option.some.injEq] at e
      subst e
      exact o5.imp id (fun z => by omega), Kept.trans KW.mono' k5 (fun _ _ e => e)⟩
    clear a6 IH a2 a3 a4 hB hsk hlen e1 hR BX
    go_enter Tryz.func21, Tryz.ntmps21
    go_upto_region 1 with fail
    rw [← hW1]
    clear hW1
    go_wp2_with (first | (at_builtin; refine wpList_push rfl _ _ 32 rfl Tryz.underlying32 base out (.slice lo out.length lc) rfl hR1 r rfl hb1 hsz ?_; intro g cap w5 r5 k5 o5))
    go_ret
    exact FIN.out g cap w5 r5 k5 o5
  · have hke1 : (k == 1) = false := by simpa using hk1
    by_cases hk2 : k = 2
    · subst hk2
      have e1 : rulesF (n + 1) (2, r, p, l) = l.flatMap (fun x => rulesF n x.2) := by simp [rulesF]
      rw [e1] at hlen ⊢
      have H6 : Hid (l = [] ∨ ∃ b off, ko = some ⟨b, off, none⟩ ∧ B b ∧ b < w.heap.size ∧ ∀ i (h : i < l.length), ∃ c0 c1 c2 c3, w.cell? ⟨b, off + i * 5, none⟩ = some (.int .i64 l[i].1) ∧ w.cell? ⟨b, off + i * 5 + 1, none⟩ = some c0 ∧ w.cell? ⟨b, off + i * 5 + 2, none⟩ = some c1 ∧ w.cell? ⟨b, off + i * 5 + 3, none⟩ = some c2 ∧ w.cell? ⟨b, off + i * 5 + 4, none⟩ = some c3 ∧ CsB B w n (.agg #[c0, c1, c2, c3]) l[i].2) := a6
      have HSK : Hid (∀ i (h : i < l.length), SmK n l[i].2) := hsk
      have HB : Hid (∀ b, B b → (Value.slice lo out.length lc).ownBlock ≠ some b) := hB
      have HIH : Hid (RIH n) := IH
      have HLE : Hid ((out ++ l.flatMap (fun x => rulesF n x.2)).length ≤ 4000000) := hlen
      have R2 : Hid (Row base W1 (.slice lo out.length lc) (out ++ (l.take 0).flatMap (fun x => rulesF n x.2))) := by simpa [Hid] using hR1
      clear a6 hsk hB IH a2 a3 a4 hR hlen e1 hR1
      go_enter Tryz.func21, Tryz.ntmps21
      go_upto_region 1 with fail
      rw [← hW1]
      clear hW1
      go_wp2_with fail
      go_loopw [1, 5] (fun s1 i wr => ∃ (j : Nat), j ≤ l.length ∧ i = .int .i64 (j : Int) ∧ Hid (Row base wr s1 (out ++ (l.take j).flatMap (fun x => rulesF n x.2))) ∧ Hid (∀ q, s1.ownBlock = some q → (Value.slice lo out.length lc).ownBlock = some q ∨ W1.heap.size ≤ q) ∧ Kept (fun q => (Value.slice lo out.length lc).ownBlock = some q) W1 wr) (fun _ i _ => l.length - (intOf i).toNat)
      case atStart => exact ⟨0, Nat.zero_le _, rfl, R2, fun q e => .inl e, Kept.refl _ _⟩
      case round =>
        clear R2 x0 x1 x3
        obtain ⟨j, hj, rfl, hRk, hOk, hw⟩ := hrel
        obtain ⟨lo2, lc2, rfl⟩ := row_shape hRk.out
        obtain ⟨y0, y3⟩ := BX.out wr hw
        by_cases hjl : j < l.length
        · rcases H6.out with e | ⟨ab, aoff, rfl, hBab, hab, hca⟩
          · subst e; simp at hjl
          obtain ⟨c0, c1, c2, c3, p0, p1, p2, p3, p4, p5⟩ := hca j hjl
          obtain ⟨e0, e1, e2, e3, e4, e5, e6, e7, ea⟩ := p5.shape
          simp only [Value.agg.injEq, Array.mk.injEq, List.cons.injEq, and_true] at ea
          obtain ⟨rfl, rfl, rfl, rfl⟩ := ea
          have kw : Kept (fun q => (Value.slice lo out.length lc).ownBlock = some q) w wr := Kept.trans KW.mono' hw (fun _ _ z => z)
          have ta : ∀ o v, w.cell? ⟨ab, o, none⟩ = some v → wr.cell? ⟨ab, o, none⟩ = some v := fun o v e => (kw.cell (p := ⟨ab, o, none⟩) hab (HB.out ab hBab)).trans e
          have p1 := ta _ _ p1
          have p2 := ta _ _ p2
          have p3 := ta _ _ p3
          have p4 := ta _ _ p4
          have i1 : (0 : Int) ≤ (j : Int) := by omega
          have i2 : (j : Int) < (l.length : Int) := by omega
          have p5' : CsB (fun b => B b ∧ b < w.heap.size) w n (.agg #[.int .i64 e0, .int .i64 e1, .slice e2 e3 e4, .slice e5 e6 e7]) l[j].2 := CsB.mono (fun b hb q => ⟨q, hb⟩) p5
          have p6 := CsB.kept kw (fun b q => HB.out b q.1) p5'
          have zw := kw.size
          have CC := HIH.out wr _ _ _ base _ (out ++ (l.take j).flatMap (fun x => rulesF n x.2)) p6 hRk.out (Nat.le_trans hb zw) (fun b q f => by
            rcases hOk.out b f with g | g
            · exact HB.out b q.1 g
            · have := q.2; omega) (by
            have := HLE.out
            have h2 := flatMap_le (fun x : Int × Tr n => rulesF n x.2) l (j + 1)
            rw [flatMap_take _ _ hjl] at h2
            simp only [List.length_append] at this h2 ⊢
            omega) (HSK.out j hjl)
          have FIN : Hid (∀ e w5, GathV wr base (.slice lo2 (out ++ (l.take j).flatMap (fun x => rulesF n x.2)).length lc2) ((out ++ (l.take j).flatMap (fun x => rulesF n x.2)) ++ rulesF n l[j].2) e w5 → ∃ lo5 ll5 lc5, e = .returned (.slice lo5 ll5 lc5) ∧ Hid (Row base w5 (.slice lo5 ll5 lc5) (out ++ (l.take (j + 1)).flatMap (fun x => rulesF n x.2))) ∧ Hid (∀ q, (Value.slice lo5 ll5 lc5).ownBlock = some q → (Value.slice lo out.length lc).ownBlock = some q ∨ W1.heap.size ≤ q) ∧ Kept (fun q => (Value.slice lo out.length lc).ownBlock = some q) W1 w5) := fun e w5 ⟨lv5, f1, f2, f3, f4⟩ => by
            have zz := hw.size
            obtain ⟨lo5, lc5, rfl⟩ := row_shape f2
            refine ⟨lo5, _, lc5, f1, ?_, fun q z => ?_, Kept.trans hw f4 (fun q hq z => ?_)⟩
            · show Row _ _ _ _
              rw [flatMap_take _ _ hjl, ← List.append_assoc]; exact f2
            · rcases f3 q z with g | g
              · exact hOk.out q g
              · exact .inr (by omega)
            · rcases hOk.out q z with g | g
              · exact g
              · omega
          clear hca p5 p5' p6 ta hRk hOk kw p0
          generalize (out ++ (l.take j).flatMap (fun x => rulesF n x.2)).length = M at *
          go_wp2_with (first | (go_at_call 21; refine CC.mono ?_; intro e w5 h5; obtain ⟨lo5, ll5, lc5, rfl, z1, z2, z3⟩ := FIN.out e w5 h5))
          exact ⟨⟨j + 1, by omega, by go_num, z1, z2, z3⟩, by simp [intOf]; omega⟩
        · obtain rfl : j = l.length := by omega
          have FIN : Hid (GathV w base (.slice lo out.length lc) (out ++ l.flatMap (fun x => rulesF n x.2)) (.returned (.slice lo2 (out ++ (l.take l.length).flatMap (fun x => rulesF n x.2)).length lc2)) wr) := by
            have h2 := hRk.out
            refine ⟨_, rfl, ?_, fun q z => (hOk.out q z).imp id (fun y => by omega), Kept.trans KW.mono' hw (fun _ _ z => z)⟩
            rw [List.take_length] at h2 ⊢
            exact h2
          clear hRk hOk
          generalize (out ++ (l.take l.length).flatMap (fun x => rulesF n x.2)).length = M at *
          go_wp2_with fail
          go_ret
          exact FIN.out
    · have hke2 : (k == 2) = false := by simpa using hk2
      have e1 : rulesF (n + 1) (k, r, p, l) = [] := by simp [rulesF, hk1, hk2]
      rw [e1, List.append_nil]
      have FIN : Hid (GathV w base (.slice lo out.length lc) out (.returned (.slice lo out.length lc)) W1) := ⟨_, rfl, hR1, fun q e => .inl e, KW.mono'⟩
      clear a6 IH a2 a3 a4 hB hsk hlen e1 hR BX hR1
      go_enter Tryz.func21, Tryz.ntmps21
      go_upto_region 1 with fail
      rw [← hW1]
      clear hW1
      go_wp2_with fail
      go_ret
      exact FIN.out
theorem rr_any : ∀ n, RIH n
  | 0 => fun w v t B base lv out h => h.elim
  | n + 1 => rr_step (rr_any n)
end Go.Proofs.YtlemcinjalepkaaGreat
/- The walks of pass with the function of Size, and of Size. -/
namespace Go.Proofs.YtlemcinjalepkaaGreat
set_option maxRecDepth 100000
set_option linter.unusedVariables false
open Go.RowKit
attribute [local go_sem ↓] Go.wp_at_zero Go.wp_at_succ
abbrev T3 := Nat × Nat × Nat
def add3 (a b : T3) : T3 := (a.1 + b.1, a.2.1 + b.2.1, a.2.2 + b.2.2)
def sum3 {α : Type} (f : α → T3) : List α → T3
  | [] => (0, 0, 0)
  | x :: r => add3 (f x) (sum3 f r)
theorem sum3_append {α : Type} (f : α → T3) : ∀ (a b : List α), sum3 f (a ++ b) = add3 (sum3 f a) (sum3 f b)
  | [], b => by simp [sum3, add3]
  | x :: r, b => by
    rw [List.cons_append, sum3, sum3, sum3_append f r b]
    simp only [add3, Nat.add_assoc]
theorem sum3_take {α : Type} (f : α → T3) (l : List α) {j : Nat} (h : j < l.length) : sum3 f (l.take (j + 1)) = add3 (sum3 f (l.take j)) (f l[j]) := by
  rw [List.take_add_one, List.getElem?_eq_getElem h]
  show sum3 f ((l.take j) ++ [l[j]]) = _
  rw [sum3_append]
  simp [sum3, add3]
theorem sum3_le {α : Type} (f : α → T3) (l : List α) (j : Nat) : (sum3 f (l.take j)).1 ≤ (sum3 f l).1 ∧ (sum3 f (l.take j)).2.1 ≤ (sum3 f l).2.1 ∧ (sum3 f (l.take j)).2.2 ≤ (sum3 f l).2.2 := by
  have e : sum3 f l = add3 (sum3 f (l.take j)) (sum3 f (l.drop j)) := by rw [← sum3_append, List.take_append_drop]
  rw [e]; simp [add3]
def kind3 (k : Int) : T3 := if k = 1 then (1, 0, 0) else if k = 2 then (0, 1, 0) else if k = 3 then (0, 0, 1) else (0, 0, 0)
/-- How many leaves, branches and fails. -/
def szT : (n : Nat) → Tr n → T3
  | 0, _ => (0, 0, 0)
  | n + 1, (k, r, p, l) => add3 (kind3 k) (if k = 2 then sum3 (fun x => szT n x.2) l else (0, 0, 0))
/-- The three counts. -/
structure SAt (w : World) (x y z : Nat) (a : T3) : Prop where
  bx : w.heap[x]? = some (.cells #[.int .i64 (a.1 : Int)] 3 (0, 0))
  by' : w.heap[y]? = some (.cells #[.int .i64 (a.2.1 : Int)] 3 (0, 0))
  bz : w.heap[z]? = some (.cells #[.int .i64 (a.2.2 : Int)] 3 (0, 0))
  xy : x ≠ y
  xz : x ≠ z
  yz : y ≠ z
def In3 (x y z q : Nat) : Prop := q = x ∨ q = y ∨ q = z
theorem SAt.same {w w' : World} {x y z : Nat} {a : T3} (h : SAt w x y z a) (hk : Same0 w w') : SAt w' x y z a := ⟨hk.at0 h.bx, hk.at0 h.by', hk.at0 h.bz, h.xy, h.xz, h.yz⟩
def Cnt (w : World) (x y z : Nat) (a : T3) (e : Ending) (w' : World) : Prop := e = .returned (.tuple #[]) ∧ SAt w' x y z a ∧ Kept (In3 x y z) w w'
set_option maxHeartbeats 4000000 in
theorem sshow_any {w : World} {x y z : Nat} {a : T3} (h : SAt w x y z a) (ha : a.1 ≤ 4000000000 ∧ a.2.1 ≤ 4000000000 ∧ a.2.2 ≤ 4000000000) (k r : Int) (po ko : Option Addr) (pl pc kl kc : Nat) :
    Calls Tryz.prog 60 #[.agg #[.int .i64 k, .int .i64 r, .slice po pl pc, .slice ko kl kc], .pointer (some ⟨x, 0, none⟩), .pointer (some ⟨y, 0, none⟩), .pointer (some ⟨z, 0, none⟩)] w (Cnt w x y z (add3 a (kind3 k))) := by
  obtain ⟨W1, hW1⟩ : ∃ W1, W1 = w.alloc (.cells #[.int .i64 k, .int .i64 r, .slice po pl pc, .slice ko kl kc] 35) := ⟨_, rfl⟩
  have KW : Same0 w W1 := by rw [hW1]; exact (Kept.refl _ w).alloc _
  have h1 := h.same KW
  have c0 : W1.cell? ⟨w.heap.size, 0, none⟩ = some (.int .i64 k) := cellAt (show W1.heap[w.heap.size]? = some (.cells #[.int .i64 k, .int .i64 r, .slice po pl pc, .slice ko kl kc] 35 (0, 0)) by rw [hW1]; exact heap_alloc_new w _) 0
  obtain ⟨a1, a2, a3⟩ := a
  obtain ⟨l1, l2, l3⟩ := ha
  have ux := cellAt h1.bx 0
  have uy := cellAt h1.by' 0
  have uz := cellAt h1.bz 0
  have fx := frozenAt h1.bx 0
  have fy := frozenAt h1.by' 0
  have fz := frozenAt h1.bz 0
  simp only [List.getElem?_toArray, List.getElem?_cons_zero] at ux uy uz
  simp only at l1 l2 l3
  have e1 : IntKind.i64.wrap ((a1 : Int) + 1) = (a1 : Int) + 1 := iwrap (by omega) (by omega)
  have e2 : IntKind.i64.wrap ((a2 : Int) + 1) = (a2 : Int) + 1 := iwrap (by omega) (by omega)
  have e3 : IntKind.i64.wrap ((a3 : Int) + 1) = (a3 : Int) + 1 := iwrap (by omega) (by omega)
  by_cases k1 : k = 1
  · subst k1
    have FIN : Hid (Cnt w x y z (add3 (a1, a2, a3) (kind3 1)) (.returned (.tuple #[])) (W1.setCell ⟨x, 0, none⟩ (.int .i64 ((a1 : Int) + 1)))) := by
      have ks : Kept (fun q => q = x) W1 (W1.setCell ⟨x, 0, none⟩ (.int .i64 ((a1 : Int) + 1))) := Kept.setCell (p := ⟨x, 0, none⟩) (Kept.refl (fun q => q = x) W1) (fun _ => rfl) _
      exact ⟨rfl, ⟨setAt h1.bx 0 _, ks.at h1.by' (fun e => h.xy e.symm), ks.at h1.bz (fun e => h.xz e.symm), h.xy, h.xz, h.yz⟩, Kept.trans KW.mono' ks (fun _ _ e => .inl e)⟩
    clear h h1
    go_enter Tryz.func60, Tryz.ntmps60
    go_upto_region 1 with fail
    rw [← hW1]
    clear hW1
    go_wp2_with fail
    go_end0
    exact FIN.out
  · by_cases k2 : k = 2
    · subst k2
      have FIN : Hid (Cnt w x y z (add3 (a1, a2, a3) (kind3 2)) (.returned (.tuple #[])) (W1.setCell ⟨y, 0, none⟩ (.int .i64 ((a2 : Int) + 1)))) := by
        have ks : Kept (fun q => q = y) W1 (W1.setCell ⟨y, 0, none⟩ (.int .i64 ((a2 : Int) + 1))) := Kept.setCell (p := ⟨y, 0, none⟩) (Kept.refl (fun q => q = y) W1) (fun _ => rfl) _
        exact ⟨rfl, ⟨ks.at h1.bx (fun e => h.xy e), setAt h1.by' 0 _, ks.at h1.bz (fun e => h.yz e.symm), h.xy, h.xz, h.yz⟩, Kept.trans KW.mono' ks (fun _ _ e => .inr (.inl e))⟩
      clear h h1 k1
      go_enter Tryz.func60, Tryz.ntmps60
      go_upto_region 1 with fail
      rw [← hW1]
      clear hW1
      go_wp2_with fail
      go_end0
      exact FIN.out
    · by_cases k3 : k = 3
      · subst k3
        have FIN : Hid (Cnt w x y z (add3 (a1, a2, a3) (kind3 3)) (.returned (.tuple #[])) (W1.setCell ⟨z, 0, none⟩ (.int .i64 ((a3 : Int) + 1)))) := by
          have ks : Kept (fun q => q = z) W1 (W1.setCell ⟨z, 0, none⟩ (.int .i64 ((a3 : Int) + 1))) := Kept.setCell (p := ⟨z, 0, none⟩) (Kept.refl (fun q => q = z) W1) (fun _ => rfl) _
          exact ⟨rfl, ⟨ks.at h1.bx (fun e => h.xz e), ks.at h1.by' (fun e => h.yz e), setAt h1.bz 0 _, h.xy, h.xz, h.yz⟩, Kept.trans KW.mono' ks (fun _ _ e => .inr (.inr e))⟩
        clear h h1 k1 k2
        go_enter Tryz.func60, Tryz.ntmps60
        go_upto_region 1 with fail
        rw [← hW1]
        clear hW1
        go_wp2_with fail
        go_end0
        exact FIN.out
      · have q1 : (k == 1) = false := by simpa using k1
        have q2 : (k == 2) = false := by simpa using k2
        have q3 : (k == 3) = false := by simpa using k3
        have FIN : Hid (Cnt w x y z (add3 (a1, a2, a3) (kind3 k)) (.returned (.tuple #[])) W1) := by
          have e0 : add3 (a1, a2, a3) (kind3 k) = (a1, a2, a3) := by simp [kind3, k1, k2, k3, add3]
          rw [e0]
          exact ⟨rfl, h1, KW.mono'⟩
        clear h h1
        go_enter Tryz.func60, Tryz.ntmps60
        go_upto_region 1 with fail
        rw [← hW1]
        clear hW1
        go_wp2_with fail
        go_end0
        exact FIN.out
def Le3 (a : T3) : Prop := a.1 ≤ 4000000000 ∧ a.2.1 ≤ 4000000000 ∧ a.2.2 ≤ 4000000000
def SzIH (n : Nat) : Prop := ∀ (w : World) (v : Value) (t : Tr n) (B : Nat → Prop) (x y z : Nat) (a : T3), CsB B w n v t → SAt w x y z a → (∀ b, B b → ¬ In3 x y z b) → Le3 (add3 a (szT n t)) → SmK n t →
  Calls Tryz.prog 58 #[v, .func (.func 60) #[] #[.pointer (some ⟨x, 0, none⟩), .pointer (some ⟨y, 0, none⟩), .pointer (some ⟨z, 0, none⟩)]] w (Cnt w x y z (add3 a (szT n t)))
theorem SAt.lt {w : World} {x y z : Nat} {a : T3} (h : SAt w x y z a) : ∀ q, In3 x y z q → q < w.heap.size := by
  rintro q (rfl | rfl | rfl)
  · exact lt_of_at h.bx
  · exact lt_of_at h.by'
  · exact lt_of_at h.bz
set_option maxHeartbeats 8000000 in
theorem spass_step {n : Nat} (IH : SzIH n) : SzIH (n + 1) := by
  intro w va t B x y z a ha hS hB hlen hsm
  obtain ⟨k, r, p, l⟩ := t
  obtain ⟨po, pc, ko, kc, rfl, a2, a3, a4, a5, a6⟩ := ha
  obtain ⟨hl9, hsk⟩ := hsm
  obtain ⟨W1, hW1⟩ : ∃ W1, W1 = w.alloc (.cells #[.int .i64 k, .int .i64 r, .slice po p.length pc, .slice ko l.length kc] 35) := ⟨_, rfl⟩
  have KW : Same0 w W1 := by rw [hW1]; exact (Kept.refl _ w).alloc _
  have hlt := hS.lt
  have BX : Hid (∀ ww, Kept (In3 x y z) W1 ww → ww.cell? ⟨w.heap.size, 0, none⟩ = some (.int .i64 k) ∧ ww.cell? ⟨w.heap.size, 3, none⟩ = some (.slice ko l.length kc)) := fun ww hk => by
    have h0 : W1.heap[w.heap.size]? = some (.cells #[.int .i64 k, .int .i64 r, .slice po p.length pc, .slice ko l.length kc] 35 (0, 0)) := by rw [hW1]; exact heap_alloc_new w _
    have h1 := hk.at h0 (fun e => by have := hlt _ e; omega)
    exact ⟨cellAt h1 0, cellAt h1 3⟩
  have c0 : W1.cell? ⟨w.heap.size, 0, none⟩ = some (.int .i64 k) ∧ W1.cell? ⟨w.heap.size, 1, none⟩ = some (.int .i64 r) ∧ W1.cell? ⟨w.heap.size, 2, none⟩ = some (.slice po p.length pc) ∧ W1.cell? ⟨w.heap.size, 3, none⟩ = some (.slice ko l.length kc) := by
    have h0 : W1.heap[w.heap.size]? = some (.cells #[.int .i64 k, .int .i64 r, .slice po p.length pc, .slice ko l.length kc] 35 (0, 0)) := by rw [hW1]; exact heap_alloc_new w _
    exact ⟨cellAt h0 0, cellAt h0 1, cellAt h0 2, cellAt h0 3⟩
  have hal : a.1 ≤ 4000000000 ∧ a.2.1 ≤ 4000000000 ∧ a.2.2 ≤ 4000000000 := by
    obtain ⟨h1, h2, h3⟩ := hlen
    simp only [add3] at h1 h2 h3
    exact ⟨by omega, by omega, by omega⟩
  have C1 := sshow_any (hS.same KW) hal k r po ko p.length pc l.length kc
  obtain ⟨x0, x1, x2, x3⟩ := c0
  by_cases hk2 : k = 2
  · subst hk2
    have e1 : szT (n + 1) (2, r, p, l) = add3 (kind3 2) (sum3 (fun x => szT n x.2) l) := by simp [szT]
    have e2 : add3 a (szT (n + 1) (2, r, p, l)) = add3 (add3 a (kind3 2)) (sum3 (fun x => szT n x.2) l) := by rw [e1]; simp only [add3, Nat.add_assoc]
    rw [e2] at hlen ⊢
    generalize add3 a (kind3 2) = a' at *
    have H6 : Hid (l = [] ∨ ∃ b off, ko = some ⟨b, off, none⟩ ∧ B b ∧ b < w.heap.size ∧ ∀ i (h : i < l.length), ∃ c0 c1 c2 c3, w.cell? ⟨b, off + i * 5, none⟩ = some (.int .i64 l[i].1) ∧ w.cell? ⟨b, off + i * 5 + 1, none⟩ = some c0 ∧ w.cell? ⟨b, off + i * 5 + 2, none⟩ = some c1 ∧ w.cell? ⟨b, off + i * 5 + 3, none⟩ = some c2 ∧ w.cell? ⟨b, off + i * 5 + 4, none⟩ = some c3 ∧ CsB B w n (.agg #[c0, c1, c2, c3]) l[i].2) := a6
    have HSK : Hid (∀ i (h : i < l.length), SmK n l[i].2) := hsk
    have HB : Hid (∀ b, B b → ¬ In3 x y z b) := hB
    have HIH : Hid (SzIH n) := IH
    have HLE : Hid (Le3 (add3 a' (sum3 (fun x => szT n x.2) l))) := hlen
    have FIN0 : Hid (∀ e w2, Cnt W1 x y z a' e w2 → e = .returned (.tuple #[]) ∧ Hid (SAt w2 x y z (add3 a' (sum3 (fun x => szT n x.2) (l.take 0)))) ∧ Kept (In3 x y z) W1 w2) := fun e w2 ⟨f1, f2, f3⟩ => ⟨f1, by simpa [Hid, sum3, add3] using f2, f3⟩
    clear a6 hsk hB IH a2 a3 a4 hS hlen e1 e2 hal
    go_enter Tryz.func58, Tryz.ntmps58
    go_upto_region 1 with fail
    rw [← hW1]
    clear hW1
    go_upto_region 2 with (first | (go_at_call 60; refine C1.mono ?_; intro e w2 h2; obtain ⟨rfl, S2, k2⟩ := FIN0.out e w2 h2))
    obtain ⟨y0, y3⟩ := BX.out w2 k2
    clear x0 x1 x2 x3 C1
    go_wp2_with fail
    go_loopw [15] (fun i wr => ∃ (j : Nat), j ≤ l.length ∧ i = .int .i64 (j : Int) ∧ Hid (SAt wr x y z (add3 a' (sum3 (fun x => szT n x.2) (l.take j)))) ∧ Kept (In3 x y z) W1 wr) (fun i _ => l.length - (intOf i).toNat)
    case atStart => exact ⟨0, Nat.zero_le _, rfl, S2, k2⟩
    case round =>
      clear S2 k2 y0 y3
      obtain ⟨j, hj, rfl, hSk, hw⟩ := hrel
      by_cases hjl : j < l.length
      · rcases H6.out with e | ⟨ab, aoff, rfl, hBab, hab, hca⟩
        · subst e; simp at hjl
        obtain ⟨c0, c1, c2, c3, p0, p1, p2, p3, p4, p5⟩ := hca j hjl
        obtain ⟨e0, e1, e2, e3, e4, e5, e6, e7, ea⟩ := p5.shape
        simp only [Value.agg.injEq, Array.mk.injEq, List.cons.injEq, and_true] at ea
        obtain ⟨rfl, rfl, rfl, rfl⟩ := ea
        have kw : Kept (In3 x y z) w wr := Kept.trans KW.mono' hw (fun _ _ z => z)
        have ta : ∀ o v, w.cell? ⟨ab, o, none⟩ = some v → wr.cell? ⟨ab, o, none⟩ = some v := fun o v e => (kw.cell (p := ⟨ab, o, none⟩) hab (HB.out ab hBab)).trans e
        have p0 := ta _ _ p0
        have p1 := ta _ _ p1
        have p2 := ta _ _ p2
        have p3 := ta _ _ p3
        have p4 := ta _ _ p4
        have i1 : (0 : Int) ≤ (j : Int) := by omega
        have i2 : (j : Int) < (l.length : Int) := by omega
        have ka : Same0 wr (wr.alloc (.cells #[.int .i64 l[j].1, .int .i64 e0, .int .i64 e1, .slice e2 e3 e4, .slice e5 e6 e7] 85)) := (Kept.refl _ _).alloc _
        have p6 := (CsB.kept kw (fun b q => HB.out b q) p5).same ka
        have eS : add3 (add3 a' (sum3 (fun x => szT n x.2) (l.take j))) (szT n l[j].2) = add3 a' (sum3 (fun x => szT n x.2) (l.take (j + 1))) := by rw [sum3_take _ _ hjl]; simp only [add3, Nat.add_assoc]
        have CC := HIH.out _ _ _ _ x y z (add3 a' (sum3 (fun x => szT n x.2) (l.take j))) p6 (hSk.out.same ka) HB.out (by
          rw [eS]
          obtain ⟨h1, h2, h3⟩ := HLE.out
          obtain ⟨g1, g2, g3⟩ := sum3_le (fun x : Int × Tr n => szT n x.2) l (j + 1)
          simp only [add3] at h1 h2 h3
          exact ⟨by simp only [add3]; omega, by simp only [add3]; omega, by simp only [add3]; omega⟩) (HSK.out j hjl)
        rw [eS] at CC
        have FIN : Hid (∀ e w5, Cnt (wr.alloc (.cells #[.int .i64 l[j].1, .int .i64 e0, .int .i64 e1, .slice e2 e3 e4, .slice e5 e6 e7] 85)) x y z (add3 a' (sum3 (fun x => szT n x.2) (l.take (j + 1)))) e w5 → e = .returned (.tuple #[]) ∧ Hid (SAt w5 x y z (add3 a' (sum3 (fun x => szT n x.2) (l.take (j + 1))))) ∧ Kept (In3 x y z) W1 w5) := fun e w5 ⟨f1, f2, f3⟩ => ⟨f1, f2, Kept.trans (Kept.trans hw ka.mono' (fun _ _ z => z)) f3 (fun _ _ z => z)⟩
        clear hca p5 p6 ta hSk kw eS
        go_wp2_with (first | (go_at_call 58; refine CC.mono ?_; intro e w5 h5; obtain ⟨rfl, FF, k5⟩ := FIN.out e w5 h5))
        exact ⟨⟨j + 1, by omega, by go_num, FF, k5⟩, by simp [intOf]; omega⟩
      · obtain rfl : j = l.length := by omega
        have FIN : Hid (Cnt w x y z (add3 a' (sum3 (fun x => szT n x.2) l)) (.returned (.tuple #[])) wr) := by
          have := hSk.out
          rw [List.take_length] at this
          exact ⟨rfl, this, Kept.trans KW.mono' hw (fun _ _ z => z)⟩
        clear hSk
        go_wp2_with fail
        go_end0
        exact FIN.out
  · have e1 : szT (n + 1) (k, r, p, l) = kind3 k := by simp [szT, hk2, add3]
    rw [e1]
    have hke : (k == 2) = false := by simpa using hk2
    have FIN : Hid (∀ e w2, Cnt W1 x y z (add3 a (kind3 k)) e w2 → e = .returned (.tuple #[]) ∧ Kept (In3 x y z) W1 w2 ∧ Hid (Cnt w x y z (add3 a (kind3 k)) (.returned (.tuple #[])) w2)) := fun e w2 ⟨f1, f2, f3⟩ => ⟨f1, f3, rfl, f2, Kept.trans KW.mono' f3 (fun _ _ z => z)⟩
    generalize add3 a (kind3 k) = OUT at *
    clear a6 IH a2 a3 a4 hB hsk hlen e1
    go_enter Tryz.func58, Tryz.ntmps58
    go_upto_region 1 with fail
    rw [← hW1]
    clear hW1
    go_upto_region 2 with (first | (go_at_call 60; refine C1.mono ?_; intro e w2 h2; obtain ⟨rfl, k2, FF⟩ := FIN.out e w2 h2))
    obtain ⟨y0, y3⟩ := BX.out w2 k2
    go_wp2_with fail
    go_end0
    exact FF.out
theorem spass_any : ∀ n, SzIH n
  | 0 => fun w v t B x y z a h => h.elim
  | n + 1 => spass_step (spass_any n)
set_option maxHeartbeats 4000000 in
theorem tsize_any {w : World} {n : Nat} {v : Value} {t : Tr n} (h : CsB (fun b => b < w.heap.size) w n v t) (hl : Le3 (szT n t)) (hs : SmK n t) :
    Calls Tryz.prog 23 #[v] w fun e w' => e = .returned (.tuple #[.int .i64 ((szT n t).1 : Int), .int .i64 ((szT n t).2.1 : Int), .int .i64 ((szT n t).2.2 : Int)]) ∧ Same0 w w' := by
  obtain ⟨k, r, po, pl, pc, ko, kl, kc, rfl⟩ := h.shape
  obtain ⟨W1, hW1⟩ : ∃ W1, W1 = (((w.alloc (.cells #[.int .i64 k, .int .i64 r, .slice po pl pc, .slice ko kl kc] 35)).alloc (.cells #[.int .i64 0] 3)).alloc (.cells #[.int .i64 0] 3)).alloc (.cells #[.int .i64 0] 3) := ⟨_, rfl⟩
  have KW : Same0 w W1 := by rw [hW1]; exact ((((Kept.refl _ w).alloc _).alloc _).alloc _).alloc _
  have h0 : W1.heap[w.heap.size]? = some (.cells #[.int .i64 k, .int .i64 r, .slice po pl pc, .slice ko kl kc] 35 (0, 0)) := by
    have k2 : Same0 (w.alloc (.cells #[.int .i64 k, .int .i64 r, .slice po pl pc, .slice ko kl kc] 35)) W1 := by rw [hW1]; exact (((Kept.refl _ _).alloc _).alloc _).alloc _
    exact k2.at0 (heap_alloc_new w _)
  have g1 : W1.heap[w.heap.size + 1]? = some (.cells #[.int .i64 0] 3 (0, 0)) := by
    have k2 : Same0 ((w.alloc (.cells #[.int .i64 k, .int .i64 r, .slice po pl pc, .slice ko kl kc] 35)).alloc (.cells #[.int .i64 0] 3)) W1 := by rw [hW1]; exact ((Kept.refl _ _).alloc _).alloc _
    exact k2.at0 (heap_al_al _ _ _)
  have g2 : W1.heap[w.heap.size + 1 + 1]? = some (.cells #[.int .i64 0] 3 (0, 0)) := by
    have k2 : Same0 (((w.alloc (.cells #[.int .i64 k, .int .i64 r, .slice po pl pc, .slice ko kl kc] 35)).alloc (.cells #[.int .i64 0] 3)).alloc (.cells #[.int .i64 0] 3)) W1 := by rw [hW1]; exact (Kept.refl _ _).alloc _
    have := heap_al_al (w.alloc (.cells #[.int .i64 k, .int .i64 r, .slice po pl pc, .slice ko kl kc] 35)) (.cells #[.int .i64 0] 3) (.cells #[.int .i64 0] 3)
    rw [World.size_alloc] at this
    exact k2.at0 this
  have g3 : W1.heap[w.heap.size + 1 + 1 + 1]? = some (.cells #[.int .i64 0] 3 (0, 0)) := by
    have := heap_al_al ((w.alloc (.cells #[.int .i64 k, .int .i64 r, .slice po pl pc, .slice ko kl kc] 35)).alloc (.cells #[.int .i64 0] 3)) (.cells #[.int .i64 0] 3) (.cells #[.int .i64 0] 3)
    rw [World.size_alloc, World.size_alloc] at this
    rw [hW1]; exact this
  have x0 := cellAt h0 0
  have x1 := cellAt h0 1
  have x2 := cellAt h0 2
  have x3 := cellAt h0 3
  simp only [List.getElem?_toArray, List.getElem?_cons_zero, List.getElem?_cons_succ] at x0 x1 x2 x3
  have e0 : add3 (0, 0, 0) (szT n t) = szT n t := by simp [add3]
  have C := spass_any n W1 _ t _ (w.heap.size + 1) (w.heap.size + 1 + 1) (w.heap.size + 1 + 1 + 1) (0, 0, 0) (h.same KW) ⟨g1, g2, g3, by omega, by omega, by omega⟩ (fun b q f => by rcases f with f | f | f <;> omega) (by rw [e0]; exact hl) hs
  rw [e0] at C
  have CH : Hid (∀ e w2, Cnt W1 (w.heap.size + 1) (w.heap.size + 1 + 1) (w.heap.size + 1 + 1 + 1) (szT n t) e w2 → e = .returned (.tuple #[]) ∧ (w2.cell? ⟨w.heap.size + 1, 0, none⟩ = some (.int .i64 ((szT n t).1 : Int)) ∧ w2.cell? ⟨w.heap.size + 1 + 1, 0, none⟩ = some (.int .i64 ((szT n t).2.1 : Int)) ∧ w2.cell? ⟨w.heap.size + 1 + 1 + 1, 0, none⟩ = some (.int .i64 ((szT n t).2.2 : Int))) ∧ Hid (Same0 w w2)) := fun e w2 ⟨f1, f2, f3⟩ => ⟨f1, ⟨cellAt f2.bx 0, cellAt f2.by' 0, cellAt f2.bz 0⟩, Kept.trans KW f3 (fun i hi z => by rcases z with z | z | z <;> omega)⟩
  generalize szT n t = S at *
  obtain ⟨s1, s2, s3⟩ := S
  clear h h0 g1 g2 g3 hl hs e0
  go_enter Tryz.func23, Tryz.ntmps23
  go_upto_region 2 with fail
  rw [← hW1]
  clear hW1
  go_upto_region 3 with (first | (go_at_call 58; refine C.mono ?_; intro e w2 h2; obtain ⟨rfl, ⟨c1, c2, c3⟩, FF⟩ := CH.out e w2 h2))
  have d1 : w2.drew.cell? ⟨w.heap.size + 1, 0, none⟩ = some (.int .i64 (s1 : Int)) := c1
  have d2 : w2.drew.cell? ⟨w.heap.size + 1 + 1, 0, none⟩ = some (.int .i64 (s2 : Int)) := c2
  have d3 : w2.drew.cell? ⟨w.heap.size + 1 + 1 + 1, 0, none⟩ = some (.int .i64 (s3 : Int)) := c3
  go_quiet (fail)
  go_wp2_with fail
  go_ret3
  exact ⟨rfl, FF.out.drewN _⟩
end Go.Proofs.YtlemcinjalepkaaGreat
