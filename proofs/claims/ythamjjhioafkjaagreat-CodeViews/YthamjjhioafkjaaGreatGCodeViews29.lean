import Derived.Test.YthamjjhioafkjaaGreatGCodeViews28
namespace Go.Proofs.YthamjjhioafkjaaGreat
set_option maxRecDepth 100000
set_option linter.unusedVariables false
open Go.RowKit
def CsB (B : Nat → Prop) (w : World) : (n : Nat) → Value → Tr n → Prop
  | 0, _, _ => False
  | n + 1, v, (k, r, p, l) => ∃ po pc ko kc, v = .agg #[.int .i64 k, .int .i64 r, .slice po p.length pc, .slice ko l.length kc] ∧ Arg w po p pc ∧ (p = [] ∨ ∀ a, po = some a → B a.block) ∧ (ko = none → kc = 0) ∧ l.length ≤ kc ∧
      (l = [] ∨ ∃ b off, ko = some ⟨b, off, none⟩ ∧ B b ∧ b < w.heap.size ∧ ∀ i (h : i < l.length), ∃ c0 c1 c2 c3, w.cell? ⟨b, off + i * 5, none⟩ = some (.int .i64 l[i].1) ∧ w.cell? ⟨b, off + i * 5 + 1, none⟩ = some c0 ∧ w.cell? ⟨b, off + i * 5 + 2, none⟩ = some c1 ∧ w.cell? ⟨b, off + i * 5 + 3, none⟩ = some c2 ∧ w.cell? ⟨b, off + i * 5 + 4, none⟩ = some c3 ∧ CsB B w n (.agg #[c0, c1, c2, c3]) l[i].2)
theorem IntsAt.keptE {w w' : World} {S : Nat → Prop} {ao : Option Addr} {xs : List Int} (h : IntsAt w ao xs) (hk : Kept S w w') (hs : xs = [] ∨ ∀ a,ao = some a → ¬ S a.block) : IntsAt w' ao xs := by
  rcases hs with rfl | hs
  · exact .inl rfl
  · exact h.kept hk hs
theorem CsB.kept {B S : Nat → Prop} {w w' : World} (hk : Kept S w w') (hS : ∀ b,B b → ¬ S b) : ∀ {n : Nat} {v : Value} {t : Tr n},CsB B w n v t → CsB B w' n v t
  | 0, _, _, h => h
  | n + 1, v, (k, r, p, l), h => by
    obtain ⟨po, pc, ko, kc, h1, h2, h3, h4, h5, h6⟩ := h
    refine ⟨po, pc, ko, kc, h1, ⟨h2.at'.keptE hk (h3.imp id (fun q a e => hS _ (q a e))), h2.cap', h2.nil, h2.size⟩, h3, h4, h5, h6.imp id ?_⟩
    rintro ⟨b, off, e, hb, hl, hc⟩
    refine ⟨b, off, e, hb, Nat.lt_of_lt_of_le hl hk.size, fun i hi => ?_⟩
    have nb := hS b hb
    obtain ⟨c0, c1, c2, c3, q0, q1, q2, q3, q4, q5⟩ := hc i hi
    exact ⟨c0, c1, c2, c3, (hk.cell (p := ⟨b, off + i * 5, none⟩) hl nb).trans q0, (hk.cell (p := ⟨b, off + i * 5 + 1, none⟩) hl nb).trans q1, (hk.cell (p := ⟨b, off + i * 5 + 2, none⟩) hl nb).trans q2, (hk.cell (p := ⟨b, off + i * 5 + 3, none⟩) hl nb).trans q3, (hk.cell (p := ⟨b, off + i * 5 + 4, none⟩) hl nb).trans q4, CsB.kept hk hS q5⟩
theorem CsB.same {B : Nat → Prop} {w w' : World} {n : Nat} {v : Value} {t : Tr n} (h : CsB B w n v t) (hk : Same0 w w') : CsB B w' n v t := CsB.kept hk (fun _ _ f => f) h
theorem CsB.mono {B B' : Nat → Prop} {w : World} (hB : ∀ b,b < w.heap.size → B b → B' b) : ∀ {n : Nat} {v : Value} {t : Tr n},CsB B w n v t → CsB B' w n v t
  | 0, _, _, h => h
  | n + 1, v, (k, r, p, l), h => by
    obtain ⟨po, pc, ko, kc, h1, h2, h3, h4, h5, h6⟩ := h
    refine ⟨po, pc, ko, kc, h1, h2, ?_, h4, h5, h6.imp id ?_⟩
    · rcases h2.at' with q | ⟨b, off, e, hb, _⟩
      · exact .inl q
      · refine h3.imp id (fun q a ea => ?_)
        rw [e] at ea
        cases ea
        exact hB _ hb (q _ e)
    · rintro ⟨b, off, e, hb, hl, hc⟩
      refine ⟨b, off, e, hB b hl hb, hl, fun i hi => ?_⟩
      obtain ⟨c0, c1, c2, c3, q0, q1, q2, q3, q4, q5⟩ := hc i hi
      exact ⟨c0, c1, c2, c3, q0, q1, q2, q3, q4, CsB.mono hB q5⟩
theorem CsB.shape {B : Nat → Prop} {w : World} : ∀ {n : Nat} {v : Value} {t : Tr n},CsB B w n v t → ∃ k r po pl pc ko kl kc,v = .agg #[.int .i64 k,.int .i64 r,.slice po pl pc,.slice ko kl kc]
  | 0, _, _, h => h.elim
  | n + 1, v, (k, r, p, l), h => by
    obtain ⟨po, pc, ko, kc, h1, _⟩ := h
    exact ⟨_, _, _, _, _, _, _, _, h1⟩
theorem info_kid : (Tryz.prog.info? 163).map (fun i => (i.zero,i.size,i.bytes)) = some (some (.agg #[.int .i64 0,.int .i64 0,.int .i64 0,.slice none 0 0,.slice none 0 0]),5,72) := by kernel_rfl
def KCells (B : Nat → Prop) (w : World) (n : Nat) (us : List Value) (l : List (Int × Tr n)) : Prop :=
  us.length = l.length * 5 ∧ ∀ i (h : i < l.length), ∃ c0 c1 c2 c3, us[i * 5]? = some (.int .i64 l[i].1) ∧ us[i * 5 + 1]? = some c0 ∧ us[i * 5 + 2]? = some c1 ∧ us[i * 5 + 3]? = some c2 ∧ us[i * 5 + 4]? = some c3 ∧ CsB B w n (.agg #[c0, c1, c2, c3]) l[i].2
theorem KCells.nil (B : Nat → Prop) (w : World) (n : Nat) : KCells B w n [] [] := ⟨rfl,fun i h => absurd h (by simp)⟩
theorem KCells.kept {B S : Nat → Prop} {w w' : World} {n : Nat} {us : List Value} {l : List (Int × Tr n)} (h : KCells B w n us l) (hk : Kept S w w') (hS : ∀ b,B b → ¬ S b) : KCells B w' n us l :=
  ⟨h.1, fun i hi => by
    obtain ⟨c0, c1, c2, c3, q0, q1, q2, q3, q4, q5⟩ := h.2 i hi
    exact ⟨c0, c1, c2, c3, q0, q1, q2, q3, q4, CsB.kept hk hS q5⟩⟩
theorem KCells.mono {B B' : Nat → Prop} {w : World} {n : Nat} {us : List Value} {l : List (Int × Tr n)} (h : KCells B w n us l) (hB : ∀ b,b < w.heap.size → B b → B' b) : KCells B' w n us l :=
  ⟨h.1, fun i hi => by
    obtain ⟨c0, c1, c2, c3, q0, q1, q2, q3, q4, q5⟩ := h.2 i hi
    exact ⟨c0, c1, c2, c3, q0, q1, q2, q3, q4, CsB.mono hB q5⟩⟩
theorem KCells.snoc {B : Nat → Prop} {w : World} {n : Nat} {us : List Value} {l : List (Int × Tr n)} (h : KCells B w n us l) {s : Int} {t : Tr n} {c0 c1 c2 c3 : Value} (ht : CsB B w n (.agg #[c0,c1,c2,c3]) t) : KCells B w n (us ++ [.int .i64 s,c0,c1,c2,c3]) (l ++ [(s,t)]) := by
  refine ⟨by simp [h.1]; omega, fun i hi => ?_⟩
  by_cases hl : i < l.length
  · rw [List.getElem_append_left hl, List.getElem?_append_left (by rw [h.1]; omega), List.getElem?_append_left (by rw [h.1]; omega), List.getElem?_append_left (by rw [h.1]; omega), List.getElem?_append_left (by rw [h.1]; omega), List.getElem?_append_left (by rw [h.1]; omega)]
    exact h.2 i hl
  · obtain rfl : i = l.length := by simp at hi; omega
    refine ⟨c0, c1, c2, c3, ?_, ?_, ?_, ?_, ?_, by simpa using ht⟩ <;> (rw [List.getElem?_append_right (by rw [h.1]; omega), h.1]; simp [Nat.add_sub_cancel_left])
theorem branch_cs {B : Nat → Prop} {w : World} {n : Nat} {lv : Value} {us : List Value} {l : List (Int × Tr n)} {base : Nat} (hr : w.ownsRow base 163 5 lv l.length us) (hu : KCells B w n us l) (hB : ∀ b,lv.ownBlock = some b → B b) {po : Option Addr} {pc : Nat} {p : List Int} (hp : Arg w po p pc) (hpB : ∀ a,po = some a → B a.block) (k r : Int) :
    CsB B w (n + 1) (.agg #[.int .i64 k, .int .i64 r, .slice po p.length pc, lv]) (k, r, p, l) := by
  rcases hr.2 with ⟨rfl, h0⟩ | ⟨g, cap, cur, rfl, _, hg, hle, _, _, ht⟩
  · have e0 : l = [] := List.eq_nil_of_length_eq_zero h0
    subst e0
    exact ⟨po, pc, none, 0, rfl, hp, .inr hpB, fun _ => rfl, Nat.le_refl _, .inl rfl⟩
  · refine ⟨po, pc, _, cap, rfl, hp, .inr hpB, (fun e => by cases e), hle, .inr ⟨g, 0, rfl, hB g rfl, lt_of_at hg, fun i hi => ?_⟩⟩
    obtain ⟨c0, c1, c2, c3, q0, q1, q2, q3, q4, q5⟩ := hu.2 i hi
    have a0 := hr.cells (g := g) rfl _ _ q0
    have a1 := hr.cells (g := g) rfl _ _ q1
    have a2 := hr.cells (g := g) rfl _ _ q2
    have a3 := hr.cells (g := g) rfl _ _ q3
    have a4 := hr.cells (g := g) rfl _ _ q4
    rw [addr_add] at a0 a1 a2 a3 a4
    exact ⟨c0, c1, c2, c3, a0, by rw [← a1]; congr 2, by rw [← a2]; congr 2, by rw [← a3]; congr 2, by rw [← a4]; congr 2, q5⟩
theorem step_kid {w0 W : World} {ops : Array Oper} {o : Oper} {a : Act} {K : Act → World → Prop} {Q : Exit → Act → World → Prop} {E : Prop} (hgd : o.guard = none) (s x : Operand)
    (ho : o.op = .call { callee := .builtin .append, args := #[s, x], argTypes := #[24, 24] })
    (base N : Nat) (vs : List Value) (v : Value) (hs : a.eval s = v) (hW : Same0 w0 W) (hr : w0.ownsRow base 163 5 v N vs) (A C D F G : Value) (q : Nat) (hx : a.eval x = .slice (some ⟨q, 0, none⟩) 1 1) (hq : W.heap[q]? = some (.cells #[A, C, D, F, G] 163 (0, 0))) (hA : A.oneCell' = true) (hC : C.oneCell' = true) (hD : D.oneCell' = true) (hF : F.oneCell' = true) (hG : G.oneCell' = true) (hb : base ≤ w0.heap.size) (hsz : N ≤ 1000)
    (h : ∀ g cap w', w'.ownsRow base 163 5 (.slice (some ⟨g, 0, none⟩) (N + 1) cap) (N + 1) (vs ++ [A, C, D, F, G]) → Kept (fun k => v.ownBlock = some k) w0 w' → (v.ownBlock = some g ∨ w0.heap.size ≤ g) → K (a.put o.dst (.slice (some ⟨g, 0, none⟩) (N + 1) cap)) w') :
    if Region.wanted o (yielded ops a.tmps) = true then Oper.wp Tryz.prog o a W K Q else E := by
  obtain ⟨i, hi, hz0, hz1, hz2⟩ := info_parts info_kid
  refine step_append_lies _ hgd s x 24 ho base 163 i _ 5 72 Tryz.underlying24 hi hz0 hz1 hz2 rfl (by decide) v N vs hs (hW.row hr (fun _ _ f => f)) ⟨q, 0, none⟩ 1 1 [A, C, D, F, G] hx rfl (World.news_of_block (cs := #[A, C, D, F, G]) (t := 163) (fr := (0, 0)) hq) (by intro u hu; simp at hu; rcases hu with rfl | rfl | rfl | rfl | rfl <;> assumption) (by omega) (by unfold maxLen; omega) (by omega) (Nat.le_trans hb hW.size) W.heap.size rfl ?_
  intro g cap w' hown hgrow hat hlt
  exact h g cap w' hown (Kept.grown (Kept.mono hW (fun _ _ f => f.elim)) hgrow (fun _ e _ => e)) (hat.imp id (fun e => by have := hW.size; omega))
theorem step_callp {ops : Array Oper} {o : Oper} {a : Act} {w : World} {K : Act → World → Prop} {Q : Exit → Act → World → Prop} {E : Prop} {f : FuncId} {args : Array Value} {R : Ending → World → Prop} (hgd : o.guard = none)
    (c : Calls Tryz.prog f args w R) (hrun : (execOp a.eval o).run Tryz.prog w = .ok (.enter f args) w) (hR : ∀ e w', R e w' → ∃ ch, e = .panicked ch ∧ Q (.panic ch) a w') :
    if Region.wanted o (yielded ops a.tmps) = true then Oper.wp Tryz.prog o a w K Q else E := by
  have hw : Region.wanted o (yielded ops a.tmps) = true := by simp [Region.wanted, hgd]
  rw [if_pos hw]
  unfold Oper.wp
  rw [hrun, Oper.upon_enter]
  refine c.mono fun e w' h => ?_
  obtain ⟨ch, rfl, h2⟩ := hR e w' h
  exact h2
def FkAt (w : World) (e : Ending) (z : Int) : Prop :=
  ∃ b, e = .panicked [{ v := .iface 106 (.pointer (some ⟨b, 0, none⟩)), recovered := false }] ∧ w.heap[b]? = some (.cells #[.int .i64 82, .int .i64 z, .nilIface] 108 (0, 0))
structure NdIn (w : World) (L : List Sym) (n bs : Nat) (po : Option Addr) (pc : Nat) (P : List (List Int)) (ro : Option Addr) (R : List Rw) : Prop where
  sig : Sg w.heap.size w bs L
  ps : PsAt w po P
  nul : po = none → pc = 0
  cap : P.length ≤ pc
  rs : RwAt w ro R
  ok : NdOk L n P R
theorem NdIn.same {w w' : World} {L : List Sym} {n bs : Nat} {po : Option Addr} {pc : Nat} {P : List (List Int)} {ro : Option Addr} {R : List Rw} (h : NdIn w L n bs po pc P ro R) (hk : Same0 w w') : NdIn w' L n bs po pc P ro R :=
  ⟨sg_up (h.sig.same hk) hk.size, h.ps.same hk, h.nul, h.cap, h.rs.same hk, h.ok⟩
theorem NdOk.rows {L : List Sym} {n : Nat} {P : List (List Int)} {R : List Rw} (h : NdOk L n P R) : RowsOk P.length R := fun x hx => ⟨(h.ok x hx).2.1,(h.ok x hx).2.2.1⟩
def TreeOut {n : Nat} (w : World) (r : Except Int (Tr n)) (e : Ending) (w' : World) : Prop :=
  match r with
  | .ok t => ∃ v, e = .returned v ∧ CsB (fun b => w.heap.size ≤ b) w' n v t ∧ Same0 w w'
  | .error z => FkAt w' e z ∧ Same0 w w'
def GrowIH (L : List Sym) (n : Nat) : Prop := ∀ (w : World) (bs : Nat) (po : Option Addr) (pc : Nat) (P : List (List Int)) (ro : Option Addr) (rc : Nat) (R : List Rw), NdIn w L n bs po pc P ro R → Calls Tryz.prog 66 #[.agg #[.pointer (some ⟨bs, 0, none⟩), .slice po P.length pc, .slice ro R.length rc]] w (TreeOut w (growF L n P R))
theorem NdIn.toKid {w : World} {L : List Sym} {n bs : Nat} {po : Option Addr} {pc : Nat} {P : List (List Int)} {ro : Option Addr} {R : List Rw} (h : NdIn w L (n + 1) bs po pc P ro R) {c s : Nat} (hc : c < P.length) (hs : s < L.length) {ho : Option Addr} (hh : RwAt w ho (havR R c (s : Int))) : KidIn w L bs po pc P c s ho (havR R c (s : Int)) :=
  ⟨h.sig, h.ps, h.nul, h.cap, hc, hs, hh, Nat.le_trans (havR_len R c s) h.ok.le, h.ok.few, fun p hp => by have := h.ok.len p hp; omega, fun x hx => by
    obtain ⟨h1, h2⟩ := havR_mem hx
    obtain ⟨a, b, c, _⟩ := h.ok.ok x h1
    exact ⟨a, b, c, h2⟩⟩
end Go.Proofs.YthamjjhioafkjaaGreat
