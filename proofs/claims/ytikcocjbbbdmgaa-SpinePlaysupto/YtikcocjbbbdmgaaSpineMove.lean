/- The walks of Move, the program's and the document's. -/
import Derived.Test.YtikcocjbbbdmgaaSpineTop
namespace Go.Proofs.Ytikcocjbbbdmgaa
set_option maxRecDepth 100000
set_option linter.unusedVariables false
open Go.RowKit
attribute [local go_sem ↓] Go.wp_at_zero Go.wp_at_succ
/-- The first k frames have other nodes. -/
def mvF (l : List Fr) (dt : List Int) : Nat → List Fr
  | 0 => l
  | k + 1 => match dt[k]?, (mvF l dt k)[k]? with
    | some z, some x => (mvF l dt k).set k (z, x.2)
    | _, _ => mvF l dt k
theorem mvF_len (l : List Fr) (dt : List Int) (k : Nat) : (mvF l dt k).length = l.length := by
  induction k with
  | zero => rfl
  | succ k ih =>
    unfold mvF
    split
    · rw [List.length_set, ih]
    · exact ih
theorem mvF_succ {l : List Fr} {dt : List Int} {k : Nat} (h1 : k < dt.length) (h2 : k < (mvF l dt k).length) : mvF l dt (k + 1) = (mvF l dt k).set k (dt[k], (mvF l dt k)[k].2) := by
  conv => lhs; unfold mvF
  rw [List.getElem?_eq_getElem h1, List.getElem?_eq_getElem h2]
/-- Whether one of them is below nought. -/
def negB (dt : List Int) : Prop := ∃ z ∈ dt, z < 0
theorem SpT.filled {t : TypeId} {B : Nat → Prop} {base : Nat} {w : World} {s : Nat} {v : Value} {l : List Fr} (h : SpT t B base w s v l) (hl : l ≠ []) : ∃ g cap, v = .slice (some ⟨g, 0, none⟩) l.length cap := by
  obtain ⟨vs, h1, _⟩ := h.row
  rcases h1.2 with ⟨_, h0⟩ | ⟨g, cap, cur, e, _⟩
  · exact absurd (List.eq_nil_of_length_eq_zero h0) hl
  · exact ⟨g, cap, e⟩
/-- A frame's node is turned. -/
theorem SpT.node {t : TypeId} {B : Nat → Prop} {base : Nat} {w : World} {s g cap n : Nat} {l : List Fr} (p : SpT t B base w s (.slice (some ⟨g, 0, none⟩) n cap) l) (hn : n = l.length) {i : Nat} (hi : i < l.length) (z : Int) :
    SpT t B base (w.setCell ⟨g, i * 4, none⟩ (.int .i64 z)) s (.slice (some ⟨g, 0, none⟩) n cap) (l.set i (z, l[i].2)) ∧ Kept (fun k => (Value.slice (some ⟨g, 0, none⟩) n cap).ownBlock = some k) w (w.setCell ⟨g, i * 4, none⟩ (.int .i64 z)) ∧ (∃ u, w.cell? ⟨g, i * 4, none⟩ = some u) ∧ w.frozen? ⟨g, i * 4, none⟩ = false ∧ w.cell? ⟨s, 0, none⟩ = some (.slice (some ⟨g, 0, none⟩) n cap) := by
  subst hn
  have ne : ¬ s = g := fun e => p.ne (by rw [e]; rfl)
  have ks : Kept (fun k => k = g) w (w.setCell ⟨g, i * 4, none⟩ (.int .i64 z)) := Kept.setCell (S := fun k => k = g) (Kept.refl _ w) (p := ⟨g, i * 4, none⟩) (fun _ => rfl) _
  obtain ⟨-, -, -, cur, hc⟩ := p.row.block (k := g) rfl
  obtain ⟨b, off, xo, xc, e, -, m0, -⟩ := p.row.mem.get hi
  simp only [Option.some.injEq, Addr.mk.injEq, and_true] at e
  obtain ⟨rfl, rfl⟩ := e
  rw [Nat.zero_add] at m0
  exact ⟨⟨ks.at p.box ne, p.row.node hi z, p.low, p.dif⟩, ks.mono (fun k _ e => by rw [e]; rfl), ⟨_, m0⟩, frozenAt hc _, p.cell.1⟩
theorem move_len {B : Nat → Prop} {base : Nat} {w : World} {s : Nat} {v : Value} {l : List Fr} (p : SpT 53 B base w s v l) (ao : Option Addr) (n ac : Nat) (hn : n ≠ l.length) :
    Calls Try.prog 23 #[.pointer (some ⟨s, 0, none⟩), .slice ao n ac] w fun e w' => e = .returned (.int .i64 1) ∧ w' = w := by
  have c0 := p.cell.1
  obtain ⟨vo, vc, rfl⟩ := p.row.shape
  have hn' : ¬ ((n : Int) = (l.length : Int)) := by omega
  clear p
  go_enter Try.func23, Try.ntmps23
  go_wp2
  go_ret
  exact ⟨rfl, rfl⟩
set_option maxHeartbeats 1000000 in
theorem move_neg {B : Nat → Prop} {base : Nat} {w : World} {s : Nat} {v : Value} {l : List Fr} (p : SpT 53 B base w s v l) {ao : Option Addr} {dt : List Int} {ac : Nat} (ht : Arg w ao dt ac) (hn : dt.length = l.length) (hneg : negB dt) :
    Calls Try.prog 23 #[.pointer (some ⟨s, 0, none⟩), .slice ao dt.length ac] w fun e w' => e = .returned (.int .i64 141) ∧ w' = w := by
  have c0 := p.cell.1
  obtain ⟨vo, vc, rfl⟩ := p.row.shape
  rw [← hn] at c0
  have hsz := ht.size
  have HI : Hid (IntsAt w ao dt) := ht.at'
  have HN : Hid (¬ ∀ j (hj : j < dt.length), ¬ dt[j] < 0) := fun h => by
    obtain ⟨z, hz, hlt⟩ := hneg
    obtain ⟨j, hj, rfl⟩ := List.mem_iff_getElem.1 hz
    exact h j hj hlt
  clear p ht hneg hn
  go_enter Try.func23, Try.ntmps23
  go_upto_region 4 with fail
  go_loop [23] (fun i => ∃ k : Nat, k ≤ dt.length ∧ i = .int .i64 (k : Int) ∧ Hid (∀ j (hj : j < dt.length), j < k → ¬ dt[j] < 0)) (fun i => dt.length - (intOf i).toNat)
  case atStart => exact ⟨0, Nat.zero_le _, rfl, fun j _ hj => absurd hj (Nat.not_lt_zero _)⟩
  case round =>
    obtain ⟨k, hk, rfl, hall⟩ := hrel
    by_cases hlt : k < dt.length
    · have i0 : (0 : Int) ≤ (k : Int) := by omega
      have i1 : (k : Int) < (dt.length : Int) := by omega
      have i2 : IntKind.i64.wrap ((k : Int) + 1) = (k : Int) + 1 := fwrap (by omega) (by omega)
      obtain ⟨db, doff, rfl, -, cD⟩ := HI.out.get hlt
      have HZ : Hid (¬ dt[k] < 0 → ∀ j (hj : j < dt.length), j < k + 1 → ¬ dt[j] < 0) := fun hz j hj h => by
        by_cases e : j = k
        · subst e; exact hz
        · exact hall.out j hj (by omega)
      by_cases hz : dt[k] < 0
      · clear HZ hall
        generalize dt[k] = z at *
        go_wp2
        go_ret
        exact ⟨rfl, rfl⟩
      · have HZ2 : Hid (∀ j (hj : j < dt.length), j < k + 1 → ¬ dt[j] < 0) := HZ.out hz
        clear HZ hall
        generalize dt[k] = z at *
        go_wp2
        go_round
        case rel => exact ⟨k + 1, by omega, by go_num, HZ2⟩
        case measure => simp [intOf]; omega
    · exact absurd (fun j hj => by have := hall.out j hj (by omega); omega) HN.out
set_option maxHeartbeats 2000000 in
theorem move_yes {B : Nat → Prop} {base : Nat} {w : World} {s : Nat} {v : Value} {l : List Fr} (p : SpT 53 B base w s v l) {ao : Option Addr} {dt : List Int} {ac : Nat} (ht : Arg w ao dt ac) (hn : dt.length = l.length) (hneg : ¬ negB dt) (hap : dt ≠ [] → ∀ a, ao = some a → v.ownBlock ≠ some a.block) :
    Calls Try.prog 23 #[.pointer (some ⟨s, 0, none⟩), .slice ao dt.length ac] w fun e w' => e = .returned (.int .i64 0) ∧ SpT 53 B base w' s v (mvF l dt l.length) ∧ Kept (fun k => v.ownBlock = some k) w w' := by
  have c0 := p.cell.1
  obtain ⟨vo, vc, rfl⟩ := p.row.shape
  rw [← hn] at c0 p hap ⊢
  have hsz := ht.size
  have HI : Hid (IntsAt w ao dt) := ht.at'
  have HT : Hid (∀ ww, Kept (fun k => (Value.slice vo dt.length vc).ownBlock = some k) w ww → IntsAt ww ao dt) := fun ww hk => if e : dt = [] then .inl e else ht.at'.kept hk (hap e)
  have HLN : Hid (dt.length = l.length) := hn
  have H0 : Hid (SpT 53 B base w s (.slice vo dt.length vc) (mvF l dt 0) ∧ Kept (fun k => (Value.slice vo dt.length vc).ownBlock = some k) w w) := ⟨p, Kept.refl _ _⟩
  have HNN : Hid (∀ j (hj : j < dt.length), ¬ dt[j] < 0) := fun j hj h => hneg ⟨_, List.getElem_mem hj, h⟩
  clear p ht hneg hn hap
  go_enter Try.func23, Try.ntmps23
  go_upto_region 4 with fail
  go_loop [23] (fun i => ∃ k : Nat, k ≤ dt.length ∧ i = .int .i64 (k : Int) ∧ Hid (∀ j (hj : j < dt.length), j < k → ¬ dt[j] < 0)) (fun i => dt.length - (intOf i).toNat)
  case atStart => exact ⟨0, Nat.zero_le _, rfl, fun j _ hj => absurd hj (Nat.not_lt_zero _)⟩
  case round =>
    obtain ⟨k, hk, rfl, hall⟩ := hrel
    by_cases hlt : k < dt.length
    · have i0 : (0 : Int) ≤ (k : Int) := by omega
      have i1 : (k : Int) < (dt.length : Int) := by omega
      have i2 : IntKind.i64.wrap ((k : Int) + 1) = (k : Int) + 1 := fwrap (by omega) (by omega)
      obtain ⟨db, doff, rfl, -, cD⟩ := HI.out.get hlt
      have HZ : Hid (¬ dt[k] < 0 → ∀ j (hj : j < dt.length), j < k + 1 → ¬ dt[j] < 0) := fun hz j hj h => by
        by_cases e : j = k
        · subst e; exact hz
        · exact hall.out j hj (by omega)
      have hz : ¬ dt[k] < 0 := by have := HNN.out k hlt; omega
      have HZ2 : Hid (∀ j (hj : j < dt.length), j < k + 1 → ¬ dt[j] < 0) := HZ.out hz
      clear HZ hall
      generalize dt[k] = z at *
      go_wp2
      go_round
      case rel => exact ⟨k + 1, by omega, by go_num, HZ2⟩
      case measure => simp [intOf]; omega
    · clear hall HI HNN
      have hkl : k = dt.length := by omega
      subst hkl
      go_upto_region 10 with fail
      clear c0
      go_loopw [32] (fun i wr => ∃ k : Nat, i = .int .i64 (k : Int) ∧ k ≤ dt.length ∧ Hid (SpT 53 B base wr s (.slice vo dt.length vc) (mvF l dt k) ∧ Kept (fun k => (Value.slice vo dt.length vc).ownBlock = some k) w wr)) (fun i _ => dt.length - (intOf i).toNat)
      case atStart => exact ⟨0, rfl, Nat.zero_le _, H0⟩
      case round =>
        clear H0
        obtain ⟨k, rfl, hk', HP⟩ := hrel
        by_cases hlt : k < dt.length
        · have i0 : (0 : Int) ≤ (k : Int) := by omega
          have i1 : (k : Int) < (dt.length : Int) := by omega
          have i2 : IntKind.i64.wrap ((k : Int) + 1) = (k : Int) + 1 := fwrap (by omega) (by omega)
          have hlm : k < (mvF l dt k).length := by rw [mvF_len, ← HLN.out]; exact hlt
          obtain ⟨g, cap, e⟩ := HP.out.1.filled (fun e => by rw [e] at hlm; simp at hlm)
          simp only [Value.slice.injEq] at e
          obtain ⟨rfl, -, rfl⟩ := e
          obtain ⟨M1, M2, ⟨u, m3⟩, m4, m5⟩ := HP.out.1.node (by rw [mvF_len]; exact HLN.out) (i := k) hlm dt[k]
          obtain ⟨db, doff, e, -, cD⟩ := (HT.out wr HP.out.2).get hlt
          subst e
          have HN : Hid (SpT 53 B base (wr.setCell ⟨g, k * 4, none⟩ (.int .i64 dt[k])) s (.slice (some ⟨g, 0, none⟩) dt.length vc) (mvF l dt (k + 1)) ∧ Kept (fun k => (Value.slice (some ⟨g, 0, none⟩) dt.length vc).ownBlock = some k) w (wr.setCell ⟨g, k * 4, none⟩ (.int .i64 dt[k]))) := ⟨by rw [mvF_succ hlt hlm]; exact M1, HP.out.2.trans M2 (fun _ _ e => e)⟩
          clear HP M1 M2
          generalize dt[k] = z at *
          go_wp2
          go_roundw
          case rel => first | exact ⟨k + 1, by go_num, by omega, HN⟩ | ((repeat apply Exists.intro); exact ⟨⟨k + 1, by go_num, by omega, HN⟩, rfl⟩)
          case measure => simp [intOf]; omega
        · have hkl : k = dt.length := by omega
          subst hkl
          go_wp2
          go_ret
          exact ⟨rfl, HP.out.1, HP.out.2⟩
theorem rmove_len {B : Nat → Prop} {base : Nat} {w : World} {s : Nat} {v : Value} {l : List Fr} (p : SpT 55 B base w s v l) (ao : Option Addr) (n ac : Nat) (hn : n ≠ l.length) :
    Calls Try.prog 35 #[.pointer (some ⟨s, 0, none⟩), .slice ao n ac] w fun e w' => e = .returned (.int .i64 1) ∧ w' = w := by
  have c0 := p.cell.1
  obtain ⟨vo, vc, rfl⟩ := p.row.shape
  have hn' : ¬ ((n : Int) = (l.length : Int)) := by omega
  clear p
  go_enter Try.func35, Try.ntmps35
  go_wp2
  go_ret
  exact ⟨rfl, rfl⟩
set_option maxHeartbeats 1000000 in
theorem rmove_neg {B : Nat → Prop} {base : Nat} {w : World} {s : Nat} {v : Value} {l : List Fr} (p : SpT 55 B base w s v l) {ao : Option Addr} {dt : List Int} {ac : Nat} (ht : Arg w ao dt ac) (hn : dt.length = l.length) (hneg : negB dt) :
    Calls Try.prog 35 #[.pointer (some ⟨s, 0, none⟩), .slice ao dt.length ac] w fun e w' => e = .returned (.int .i64 141) ∧ w' = w := by
  have c0 := p.cell.1
  obtain ⟨vo, vc, rfl⟩ := p.row.shape
  rw [← hn] at c0
  have hsz := ht.size
  have HI : Hid (IntsAt w ao dt) := ht.at'
  have HN : Hid (¬ ∀ j (hj : j < dt.length), ¬ dt[j] < 0) := fun h => by
    obtain ⟨z, hz, hlt⟩ := hneg
    obtain ⟨j, hj, rfl⟩ := List.mem_iff_getElem.1 hz
    exact h j hj hlt
  clear p ht hneg hn
  go_enter Try.func35, Try.ntmps35
  go_upto_region 4 with fail
  go_loop [5] (fun i => ∃ k : Nat, k ≤ dt.length ∧ i = .int .i64 (k : Int) ∧ Hid (∀ j (hj : j < dt.length), j < k → ¬ dt[j] < 0)) (fun i => dt.length - (intOf i).toNat)
  case atStart => exact ⟨0, Nat.zero_le _, rfl, fun j _ hj => absurd hj (Nat.not_lt_zero _)⟩
  case round =>
    obtain ⟨k, hk, rfl, hall⟩ := hrel
    by_cases hlt : k < dt.length
    · have i0 : (0 : Int) ≤ (k : Int) := by omega
      have i1 : (k : Int) < (dt.length : Int) := by omega
      have i2 : IntKind.i64.wrap ((k : Int) + 1) = (k : Int) + 1 := fwrap (by omega) (by omega)
      obtain ⟨db, doff, rfl, -, cD⟩ := HI.out.get hlt
      have HZ : Hid (¬ dt[k] < 0 → ∀ j (hj : j < dt.length), j < k + 1 → ¬ dt[j] < 0) := fun hz j hj h => by
        by_cases e : j = k
        · subst e; exact hz
        · exact hall.out j hj (by omega)
      by_cases hz : dt[k] < 0
      · clear HZ hall
        generalize dt[k] = z at *
        go_wp2
        go_ret
        exact ⟨rfl, rfl⟩
      · have HZ2 : Hid (∀ j (hj : j < dt.length), j < k + 1 → ¬ dt[j] < 0) := HZ.out hz
        clear HZ hall
        generalize dt[k] = z at *
        go_wp2
        go_round
        case rel => exact ⟨k + 1, by omega, by go_num, HZ2⟩
        case measure => simp [intOf]; omega
    · exact absurd (fun j hj => by have := hall.out j hj (by omega); omega) HN.out
set_option maxHeartbeats 2000000 in
theorem rmove_yes {B : Nat → Prop} {base : Nat} {w : World} {s : Nat} {v : Value} {l : List Fr} (p : SpT 55 B base w s v l) {ao : Option Addr} {dt : List Int} {ac : Nat} (ht : Arg w ao dt ac) (hn : dt.length = l.length) (hneg : ¬ negB dt) (hap : dt ≠ [] → ∀ a, ao = some a → v.ownBlock ≠ some a.block) :
    Calls Try.prog 35 #[.pointer (some ⟨s, 0, none⟩), .slice ao dt.length ac] w fun e w' => e = .returned (.int .i64 0) ∧ SpT 55 B base w' s v (mvF l dt l.length) ∧ Kept (fun k => v.ownBlock = some k) w w' := by
  have c0 := p.cell.1
  obtain ⟨vo, vc, rfl⟩ := p.row.shape
  rw [← hn] at c0 p hap ⊢
  have hsz := ht.size
  have HI : Hid (IntsAt w ao dt) := ht.at'
  have HT : Hid (∀ ww, Kept (fun k => (Value.slice vo dt.length vc).ownBlock = some k) w ww → IntsAt ww ao dt) := fun ww hk => if e : dt = [] then .inl e else ht.at'.kept hk (hap e)
  have HLN : Hid (dt.length = l.length) := hn
  have H0 : Hid (SpT 55 B base w s (.slice vo dt.length vc) (mvF l dt 0) ∧ Kept (fun k => (Value.slice vo dt.length vc).ownBlock = some k) w w) := ⟨p, Kept.refl _ _⟩
  have HNN : Hid (∀ j (hj : j < dt.length), ¬ dt[j] < 0) := fun j hj h => hneg ⟨_, List.getElem_mem hj, h⟩
  clear p ht hneg hn hap
  go_enter Try.func35, Try.ntmps35
  go_upto_region 4 with fail
  go_loop [5] (fun i => ∃ k : Nat, k ≤ dt.length ∧ i = .int .i64 (k : Int) ∧ Hid (∀ j (hj : j < dt.length), j < k → ¬ dt[j] < 0)) (fun i => dt.length - (intOf i).toNat)
  case atStart => exact ⟨0, Nat.zero_le _, rfl, fun j _ hj => absurd hj (Nat.not_lt_zero _)⟩
  case round =>
    obtain ⟨k, hk, rfl, hall⟩ := hrel
    by_cases hlt : k < dt.length
    · have i0 : (0 : Int) ≤ (k : Int) := by omega
      have i1 : (k : Int) < (dt.length : Int) := by omega
      have i2 : IntKind.i64.wrap ((k : Int) + 1) = (k : Int) + 1 := fwrap (by omega) (by omega)
      obtain ⟨db, doff, rfl, -, cD⟩ := HI.out.get hlt
      have HZ : Hid (¬ dt[k] < 0 → ∀ j (hj : j < dt.length), j < k + 1 → ¬ dt[j] < 0) := fun hz j hj h => by
        by_cases e : j = k
        · subst e; exact hz
        · exact hall.out j hj (by omega)
      have hz : ¬ dt[k] < 0 := by have := HNN.out k hlt; omega
      have HZ2 : Hid (∀ j (hj : j < dt.length), j < k + 1 → ¬ dt[j] < 0) := HZ.out hz
      clear HZ hall
      generalize dt[k] = z at *
      go_wp2
      go_round
      case rel => exact ⟨k + 1, by omega, by go_num, HZ2⟩
      case measure => simp [intOf]; omega
    · clear hall HI HNN
      have hkl : k = dt.length := by omega
      subst hkl
      go_upto_region 9 with fail
      clear c0
      go_loopw [6] (fun i wr => ∃ k : Nat, i = .int .i64 (k : Int) ∧ k ≤ dt.length ∧ Hid (SpT 55 B base wr s (.slice vo dt.length vc) (mvF l dt k) ∧ Kept (fun k => (Value.slice vo dt.length vc).ownBlock = some k) w wr)) (fun i _ => dt.length - (intOf i).toNat)
      case atStart => exact ⟨0, rfl, Nat.zero_le _, H0⟩
      case round =>
        clear H0
        obtain ⟨k, rfl, hk', HP⟩ := hrel
        by_cases hlt : k < dt.length
        · have i0 : (0 : Int) ≤ (k : Int) := by omega
          have i1 : (k : Int) < (dt.length : Int) := by omega
          have i2 : IntKind.i64.wrap ((k : Int) + 1) = (k : Int) + 1 := fwrap (by omega) (by omega)
          have hlm : k < (mvF l dt k).length := by rw [mvF_len, ← HLN.out]; exact hlt
          obtain ⟨g, cap, e⟩ := HP.out.1.filled (fun e => by rw [e] at hlm; simp at hlm)
          simp only [Value.slice.injEq] at e
          obtain ⟨rfl, -, rfl⟩ := e
          obtain ⟨M1, M2, ⟨u, m3⟩, m4, m5⟩ := (HP.out.1.same (show Same0 wr wr.drew from (Kept.refl _ _).drew)).node (by rw [mvF_len]; exact HLN.out) (i := k) hlm dt[k]
          have D : Same0 wr wr.drew := (Kept.refl _ _).drew
          obtain ⟨db, doff, e, -, cD⟩ := (HT.out wr.drew (HP.out.2.trans D (fun _ _ f => f.elim))).get hlt
          subst e
          have HN : Hid (SpT 55 B base (wr.drew.setCell ⟨g, k * 4, none⟩ (.int .i64 dt[k])) s (.slice (some ⟨g, 0, none⟩) dt.length vc) (mvF l dt (k + 1)) ∧ Kept (fun k => (Value.slice (some ⟨g, 0, none⟩) dt.length vc).ownBlock = some k) w (wr.drew.setCell ⟨g, k * 4, none⟩ (.int .i64 dt[k]))) := ⟨by rw [mvF_succ hlt hlm]; exact M1, (HP.out.2.trans D (fun _ _ f => f.elim)).trans M2 (fun _ _ e => e)⟩
          clear HP M1 M2 D
          generalize dt[k] = z at *
          go_upto_region 11 with fail
          go_region
          all_goals
            go_wp2
            go_roundw
            case rel => first | exact ⟨k + 1, by go_num, by omega, HN⟩ | ((repeat apply Exists.intro); exact ⟨⟨k + 1, by go_num, by omega, HN⟩, rfl⟩)
            case measure => simp [intOf]; omega
        · have hkl : k = dt.length := by omega
          subst hkl
          go_wp2
          go_ret
          exact ⟨rfl, HP.out.1, HP.out.2⟩
/-- What Move answers. -/
def mvE (l : List Fr) (dt : List Int) : Int := if dt.length ≠ l.length then 1 else if dt.any (fun z => decide (z < 0)) then 141 else 0
/-- The frames behind a Move. -/
def mvR (l : List Fr) (dt : List Int) : List Fr := if mvE l dt = 0 then mvF l dt l.length else l
theorem negB_iff (dt : List Int) : negB dt ↔ dt.any (fun z => decide (z < 0)) = true := by
  unfold negB
  rw [List.any_eq_true]
  simp
theorem mvR_len (l : List Fr) (dt : List Int) : (mvR l dt).length = l.length := by
  unfold mvR
  split
  · exact mvF_len _ _ _
  · rfl
theorem move_any {B : Nat → Prop} {base : Nat} {w : World} {s : Nat} {v : Value} {l : List Fr} (p : SpT 53 B base w s v l) {ao : Option Addr} {dt : List Int} {ac : Nat} (ht : Arg w ao dt ac) (hap : dt ≠ [] → ∀ a, ao = some a → v.ownBlock ≠ some a.block) :
    Calls Try.prog 23 #[.pointer (some ⟨s, 0, none⟩), .slice ao dt.length ac] w fun e w' => e = .returned (.int .i64 (mvE l dt)) ∧ SpT 53 B base w' s v (mvR l dt) ∧ Kept (fun k => v.ownBlock = some k) w w' := by
  by_cases h1 : dt.length = l.length
  · by_cases h2 : negB dt
    · have e : mvE l dt = 141 := by unfold mvE; simp [h1, (negB_iff dt).1 h2]
      have e2 : mvR l dt = l := by unfold mvR; rw [e]; simp
      rw [e, e2]
      exact (move_neg p ht h1 h2).mono (fun e w' ⟨q1, q2⟩ => ⟨q1, by rw [q2]; exact p, by rw [q2]; exact Kept.refl _ _⟩)
    · have h3 : dt.any (fun z => decide (z < 0)) = false := by
        rw [Bool.eq_false_iff]; exact fun q => h2 ((negB_iff dt).2 q)
      have e : mvE l dt = 0 := by unfold mvE; simp [h1, h3]
      have e2 : mvR l dt = mvF l dt l.length := by unfold mvR; rw [e]; simp
      rw [e, e2]
      exact move_yes p ht h1 h2 hap
  · have e : mvE l dt = 1 := by unfold mvE; simp [h1]
    have e2 : mvR l dt = l := by unfold mvR; rw [e]; simp
    rw [e, e2]
    exact (move_len p ao dt.length ac h1).mono (fun e w' ⟨q1, q2⟩ => ⟨q1, by rw [q2]; exact p, by rw [q2]; exact Kept.refl _ _⟩)
theorem rmove_any {B : Nat → Prop} {base : Nat} {w : World} {s : Nat} {v : Value} {l : List Fr} (p : SpT 55 B base w s v l) {ao : Option Addr} {dt : List Int} {ac : Nat} (ht : Arg w ao dt ac) (hap : dt ≠ [] → ∀ a, ao = some a → v.ownBlock ≠ some a.block) :
    Calls Try.prog 35 #[.pointer (some ⟨s, 0, none⟩), .slice ao dt.length ac] w fun e w' => e = .returned (.int .i64 (mvE l dt)) ∧ SpT 55 B base w' s v (mvR l dt) ∧ Kept (fun k => v.ownBlock = some k) w w' := by
  by_cases h1 : dt.length = l.length
  · by_cases h2 : negB dt
    · have e : mvE l dt = 141 := by unfold mvE; simp [h1, (negB_iff dt).1 h2]
      have e2 : mvR l dt = l := by unfold mvR; rw [e]; simp
      rw [e, e2]
      exact (rmove_neg p ht h1 h2).mono (fun e w' ⟨q1, q2⟩ => ⟨q1, by rw [q2]; exact p, by rw [q2]; exact Kept.refl _ _⟩)
    · have h3 : dt.any (fun z => decide (z < 0)) = false := by
        rw [Bool.eq_false_iff]; exact fun q => h2 ((negB_iff dt).2 q)
      have e : mvE l dt = 0 := by unfold mvE; simp [h1, h3]
      have e2 : mvR l dt = mvF l dt l.length := by unfold mvR; rw [e]; simp
      rw [e, e2]
      exact rmove_yes p ht h1 h2 hap
  · have e : mvE l dt = 1 := by unfold mvE; simp [h1]
    have e2 : mvR l dt = l := by unfold mvR; rw [e]; simp
    rw [e, e2]
    exact (rmove_len p ao dt.length ac h1).mono (fun e w' ⟨q1, q2⟩ => ⟨q1, by rw [q2]; exact p, by rw [q2]; exact Kept.refl _ _⟩)
end Go.Proofs.Ytikcocjbbbdmgaa
