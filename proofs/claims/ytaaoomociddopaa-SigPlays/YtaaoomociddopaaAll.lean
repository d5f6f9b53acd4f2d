/- The iterator All: its contract, for every loop body that keeps what lay below. -/
import Derived.Test.YtaaoomociddopaaSigAtW
import Derived.RangeFuncNested
import Derived.RangeFuncLeaves
import Derived.RangeFuncBox
import Derived.Shelf.Abstract
import Derived.OwnWalkIn
import Derived.TacticsInMore
import Derived.LoopNIn
import Derived.LoopIn
namespace Go.Proofs.Ytaaoomociddopaa
open Go.RowKit Go.Shelf
attribute [local go_sem] Oper.semAt_some
abbrev symV (x : Sym) : Value := .agg #[.string x.name, .int .i64 x.ar, .bool x.df]
abbrev symE (x : Sym × Nat) : Array Value := #[.int .i64 (x.2 : Int), symV x.1]
theorem SigAt.below {w w' : World} {b n₀ : Nat} {L : List Sym} {sv : Value} {mr : Option Nat} (h : SigAt w b L sv mr) (hb : Below n₀ w w') (hf : ∀ k, Foot b sv mr k → k < n₀) : SigAt w' b L sv mr :=
  h.kept (S := fun k => n₀ ≤ k) ⟨hb.os, hb.tape, hb.output, hb.size, fun k _ hn => hb.block k (by omega)⟩ (fun k hk e => by have := hf k hk; omega)
theorem take_zip {L : List Sym} {k : Nat} (h : k < L.length) : L.zipIdx.take (k + 1) = L.zipIdx.take k ++ [(L[k], k)] := by
  rw [List.take_succ_eq_append_getElem (by simpa using h)]; simp
set_option maxRecDepth 100000 in
set_option maxHeartbeats 2000000 in
theorem all1_in (F : Fence) (n : Nat) (h37 : F.fn 37) (hro : F.round = none) (hn : 1 ≤ n) (l Bn n₀ b : Nat) (L : List Sym) (sv : Value) (mr : Option Nat) (J Jx : List (Sym × Nat) → World → Prop)
    (hY : ∀ pre x W, J pre W → pre.length < L.length → YieldAt F (n - 1) Try.prog l (symE x) W fun e W' =>
      (e = .returned (.bool true) ∧ J (pre ++ [x]) W' ∧ Below n₀ W W') ∨ (e = .returned (.bool false) ∧ Jx (pre ++ [x]) W'))
    (W : World) (hJ : AbidesFrom W.heap.size J) (hBn : W.cell? ⟨Bn, 0, none⟩ = some (.pointer (some ⟨b, 0, none⟩))) (hs : SigAt W b L sv mr) (hf : ∀ k, Foot b sv mr k → k < n₀) (h0 : J [] W) :
    CallsIn F n Try.prog 37 #[.func (.yield l) #[] #[], .pointer (some ⟨Bn, 0, none⟩)] W fun e W' => (∃ v, e = .returned v) ∧
      ((∃ ys, ys = L.zipIdx ∧ J ys W') ∨ (∃ pre, pre <+: L.zipIdx ∧ Jx pre W')) := by
  obtain ⟨ao, cap, rfl⟩ := hs.sv
  have c0 : W.cell? ⟨b, 0, none⟩ = some (.slice ao L.length cap) := cellAt hs.blk 0
  have hlen := hs.len
  refine callsIn_of_wp Try.func37 rfl h37 ?_ hro
  simp only [Try.ntmps37, List.size_toArray, List.length_cons, List.length_nil, Nat.reduceAdd, Nat.reduceSub, Array.replicate_succ, Array.replicate_zero, List.push_toArray, List.append_toArray, List.nil_append, List.cons_append]
  gi_wp2
  gi_loopw [12] (fun i wr => ∃ k : Nat, k ≤ L.length ∧ i = .int .i64 k ∧ SigAt wr b L (.slice ao L.length cap) mr ∧ W.heap.size ≤ wr.heap.size ∧ J (L.zipIdx.take k) wr) (fun i _ => L.length - (intOf i).toNat)
  case atStart => exact ⟨0, Nat.zero_le _, rfl, hs, Nat.le_refl _, h0⟩
  case round =>
    obtain ⟨k, hk, rfl, hsr, hsz, hJs⟩ := hrel
    by_cases hlt : k < L.length
    · obtain ⟨g, rfl, hg, x0, x1, x2⟩ := hsr.sym hlt
      have i1 : (0 : Int) ≤ (k : Int) := by omega
      have i2 : (k : Int) < (L.length : Int) := by omega
      have hJ' : J (L.zipIdx.take k) (wr.alloc (.cells #[.string L[k].name, .int .i64 L[k].ar, .bool L[k].df] 35)) := hJ _ _ _ none hJs (World.grownBy_alloc wr _ none) (fun r e => by cases e)
      obtain ⟨fn, tmps, assign, body, hy, hR⟩ := hY _ (L[k], k) _ hJ' (by simp; omega)
      gi_wp2
      refine hR.mono ?_
      rintro e W3 (⟨rfl, hJ3, hk3⟩ | ⟨rfl, hJx3⟩)
      · rw [← take_zip hlt] at hJ3
        have hs3 : SigAt W3 b L (.slice (some ⟨g, 0, none⟩) L.length cap) mr := (hsr.kept (Kept.alloc (Kept.refl (fun _ => False) wr) _) (fun _ _ f => f)).below hk3 hf
        have hz3 := hk3.size
        simp only [World.size_alloc] at hz3
        gi_wp2
        go_roundw
        case rel => exact ⟨k + 1, by omega, by go_num, hs3, by omega, hJ3⟩
        case measure => simp [intOf]; omega
      · gi_wp2
        refine bodyPost_ret (results_none rfl _ _ _) rfl ?_
        exact ⟨⟨_, rfl⟩, .inr ⟨_, ⟨L.zipIdx.drop (k + 1), by rw [← take_zip hlt]; exact List.take_append_drop _ _⟩, hJx3⟩⟩
    · gi_wp2
      go_end0
      exact ⟨⟨_, rfl⟩, .inl ⟨_, rfl, by rw [List.take_of_length_le (by simp; omega)] at hJs; exact hJs⟩⟩
set_option maxHeartbeats 1000000 in
theorem all_in (F : Fence) (n : Nat) (h22 : F.fn 22) (hro : F.round = none) (p0 : Option Addr) (w : World) :
    CallsIn F n Try.prog 22 #[.pointer p0] w fun e w' => e = .returned (.func (.func 37) #[] #[.pointer (some ⟨w.heap.size, 0, none⟩)]) ∧ w' = w.alloc (.cells #[.pointer p0] 25) := by
  refine callsIn_of_wp Try.func22 rfl h22 ?_ hro
  simp only [Try.ntmps22, List.size_toArray, List.length_cons, List.length_nil, Nat.reduceAdd, Nat.reduceSub, Array.replicate_succ, Array.replicate_zero, List.push_toArray, List.append_toArray, List.nil_append, List.cons_append]
  gi_wp2
  go_ret
  exact ⟨rfl, rfl⟩
theorem all_stops (F : Fence) (n : Nat) (h37 : F.fn 37) (hro : F.round = none) (hn : 1 ≤ n) (Bn n₀ b : Nat) (L : List Sym) (sv : Value) (mr : Option Nat) (w : World) (hBn : Bn < w.heap.size) (hn₀ : n₀ ≤ w.heap.size)
    (hc : w.cell? ⟨Bn, 0, none⟩ = some (.pointer (some ⟨b, 0, none⟩))) (hs : SigAt w b L sv mr) (hf : ∀ k, Foot b sv mr k → k < n₀) :
    SeqStopsK F n Try.prog 37 #[.pointer (some ⟨Bn, 0, none⟩)] symE (Below n₀) (fun ys => ys = L.zipIdx) (fun pre => pre <+: L.zipIdx) L.length w := fun l J Jx W hW hJ _ hY h0 =>
  all1_in F n h37 hro hn l Bn n₀ b L sv mr J Jx hY W hJ ((hW.cell (p := ⟨Bn, 0, none⟩) hBn).trans hc) (hs.below (hW.mono hn₀) hf) hf h0
set_option maxRecDepth 100000 in
set_option maxHeartbeats 1000000 in
theorem all1_nil (F : Fence) (n : Nat) (h37 : F.fn 37) (hro : F.round = none) (l Bn : Nat) (J Jx : List (Sym × Nat) → World → Prop) (W : World) (hBn : W.cell? ⟨Bn, 0, none⟩ = some (.pointer none)) (h0 : J [] W) :
    CallsIn F n Try.prog 37 #[.func (.yield l) #[] #[], .pointer (some ⟨Bn, 0, none⟩)] W fun e W' => (∃ v, e = .returned v) ∧
      ((∃ ys, ys = [] ∧ J ys W') ∨ (∃ pre, pre <+: [] ∧ Jx pre W')) := by
  refine callsIn_of_wp Try.func37 rfl h37 ?_ hro
  simp only [Try.ntmps37, List.size_toArray, List.length_cons, List.length_nil, Nat.reduceAdd, Nat.reduceSub, Array.replicate_succ, Array.replicate_zero, List.push_toArray, List.append_toArray, List.nil_append, List.cons_append]
  gi_wp2
  refine bodyPost_ret (results_none rfl _ _ _) rfl ?_
  exact ⟨⟨_, rfl⟩, .inl ⟨[], rfl, h0⟩⟩
theorem nil_stops (F : Fence) (n : Nat) (h37 : F.fn 37) (hro : F.round = none) (Bn n₀ : Nat) (w : World) (hBn : Bn < w.heap.size) (hc : w.cell? ⟨Bn, 0, none⟩ = some (.pointer none)) :
    SeqStopsK F n Try.prog 37 #[.pointer (some ⟨Bn, 0, none⟩)] symE (Below n₀) (fun ys => ys = []) (fun pre => pre <+: []) 0 w := fun l J Jx W hW _ _ _ h0 =>
  all1_nil F n h37 hro l Bn J Jx W ((hW.cell (p := ⟨Bn, 0, none⟩) hBn).trans hc) h0
end Go.Proofs.Ytaaoomociddopaa
