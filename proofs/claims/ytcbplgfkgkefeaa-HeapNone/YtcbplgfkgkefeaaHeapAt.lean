/- The walks of At and Resolve of package heap. -/
import Derived.Test.YtcbplgfkgkefeaaHeapNew
import Derived.Deep.RegionHeld3
namespace Go.Proofs.Ytcbplgfkgkefeaa
set_option maxRecDepth 100000
set_option linter.unusedVariables false
open Go.RowKit
attribute [local go_sem ↓] Go.wp_at_zero Go.wp_at_succ
/-- What a node that came out is. -/
def NdOut (w w' : World) (x : Nd) (bo : Option Addr) (bc : Nat) : Prop := ArgT w' bo x.2.1 bc ∧ (∀ a, bo = some a → w.heap.size ≤ a.block) ∧ Same0 w w'
set_option maxHeartbeats 2000000 in
theorem hat_yes {B : Nat → Prop} {w : World} {h g room : Nat} {l : List Nd} (p : HpB B w h g room l) (i : Nat) (hi : i < l.length) : Calls Try.prog 21 #[.pointer (some ⟨h, 0, none⟩), .int .i64 (i : Int)] w fun e w' => ∃ bo bc, e = .returned (.tuple #[nodeV l[i] bo bc, .int .i64 0]) ∧ NdOut w w' l[i] bo bc := by
  obtain ⟨W0, hW0⟩ : ∃ W0, W0 = w.alloc (.cells #[.int .i64 0, .slice none 0 0, .int .i64 0, .bool false, .int .i64 0] 45) := ⟨_, rfl⟩
  have k0 : Same0 w W0 := by rw [hW0]; exact (Kept.refl _ w).alloc _
  have hb : W0.heap[w.heap.size]? = some (.cells #[.int .i64 0, .slice none 0 0, .int .i64 0, .bool false, .int .i64 0] 45 (0, 0)) := by rw [hW0]; exact heap_alloc_new w _
  have hz : W0.heap.size = w.heap.size + 1 := by rw [hW0]; simp
  have k1 : Same0 W0 (W0.alloc (.cells #[.int .i64 (i : Int)] 3)) := (Kept.refl _ _).alloc _
  have p1 := (p.same k0).same k1
  have C := refusal_hp p1 1 (ints_one W0 (i : Int)) (by simp)
  rw [refE_one (by omega)] at C
  obtain ⟨c0, c1⟩ := p1.cells
  obtain ⟨ao, ac, n0, n1, n2, n3, n4, n5, n6⟩ := p1.each i hi
  have hm := (may_facts (p.may _ (List.getElem_mem hi))).2.1
  have CC := copied_any (x := l[i]) (ac := ac) n5.1 (by omega)
  have i1 : (0 : Int) ≤ (i : Int) := by omega
  have i2 : (i : Int) < (room : Int) := by have := p.le; omega
  have HB : Hid (∀ ww, Same0 (W0.alloc (.cells #[.int .i64 (i : Int)] 3)) ww → ww.heap[w.heap.size]? = some (.cells #[.int .i64 0, .slice none 0 0, .int .i64 0, .bool false, .int .i64 0] 45 (0, 0))) := fun ww hk => (k1.trans' hk).at0 hb
  have HK : Hid (∀ ww, Same0 (W0.alloc (.cells #[.int .i64 (i : Int)] 3)) ww → Same0 w ww) := fun ww hk => (k0.trans' k1).trans' hk
  have HZ : Hid (w.heap.size < W0.heap.size) := by show _ < _; omega
  clear p p1 k0 hb k1 hz n5 n6
  go_enter Try.func21, Try.ntmps21
  go_upto_region 1 with fail
  rw [← hW0]
  clear hW0
  go_upto_region 4 with (first | (go_at_call 46; refine C.mono ?_; rintro e w' ⟨rfl, rfl⟩))
  clear C
  go_wp2_with (first | (go_at_call 47; refine CC.mono ?_; rintro e w1 ⟨bo, bc, rfl, ha, hbb, hk⟩; have q := HB.out w1 hk; obtain ⟨b0, b1, b2, b3, b4⟩ := box5 q; obtain ⟨g0, g1, g2, g3, g4⟩ := free5 q; clear q CC n0 n1 n2 n3 n4 c0 c1))
  have hlt : w.heap.size < (W0.alloc (.cells #[.int .i64 (i : Int)] 3)).heap.size := by have := HZ.out; simp; omega
  have hx : ∀ a, bo = some a → w.heap.size < a.block := fun a e => by have := hbb a e; omega
  have K5 := put5_kept w1 w.heap.size 0 (.int .i64 l[i].1) (.slice bo l[i].2.1.length bc) (.int .i64 l[i].2.2.1) (.bool l[i].2.2.2.1) (.int .i64 l[i].2.2.2.2)
  have R1 := ha.kept' K5 (fun a e s => by have := hx a e; omega)
  have R2 : Same0 w _ := (HK.out w1 hk).trans K5 (fun i hi e => by omega)
  exact bodyPost_ret (v := .tuple #[nodeV l[i] bo bc, .int .i64 0]) (by simp [results, Try.results21, go_sem, b0, b1, b2, b3, b4]) rfl ⟨bo, bc, rfl, R1, fun a e => Nat.le_of_lt (hx a e), R2⟩
/-- From a to b by indirections. -/
def Ind (l : List Nd) : Nat → Nat → Nat → Prop
  | 0, a, b => a = b
  | k + 1, a, b => ∃ h : a < l.length, l[a].2.2.2.1 = true ∧ Ind l k l[a].2.2.2.2.toNat b
/-- b is the application that the node a is. -/
def Res (l : List Nd) (a b : Nat) : Prop := (∃ k, Ind l k a b) ∧ ∃ h : b < l.length, l[b].2.2.2.1 = false
theorem Ind.uniq {l : List Nd} : ∀ {k k' a b b' : Nat}, Ind l k a b → Ind l k' a b' → (∃ h : b < l.length, l[b].2.2.2.1 = false) → (∃ h : b' < l.length, l[b'].2.2.2.1 = false) → b = b'
  | 0, 0, a, b, b', h, h', _, _ => by cases h; cases h'; rfl
  | 0, k' + 1, a, b, b', h, ⟨_, h1, _⟩, ⟨_, q⟩, _ => by cases h; rw [h1] at q; cases q
  | k + 1, 0, a, b, b', ⟨_, h1, _⟩, h', _, ⟨_, q⟩ => by cases h'; rw [h1] at q; cases q
  | k + 1, k' + 1, a, b, b', ⟨_, _, h⟩, ⟨_, _, h'⟩, q, q' => Ind.uniq h h' q q'
theorem Res.uniq {l : List Nd} {a b b' : Nat} (h : Res l a b) (h' : Res l a b') : b = b' := by
  obtain ⟨⟨k, h1⟩, h2⟩ := h
  obtain ⟨⟨k', h3⟩, h4⟩ := h'
  exact Ind.uniq h1 h3 h2 h4
theorem Ind.snoc {l : List Nd} : ∀ {k a b : Nat}, Ind l k a b → ∀ (h : b < l.length), l[b].2.2.2.1 = true → Ind l (k + 1) a l[b].2.2.2.2.toNat
  | 0, a, b, h, hb, q => by cases h; exact ⟨hb, q, rfl⟩
  | k + 1, a, b, ⟨h1, h2, h3⟩, hb, q => ⟨h1, h2, h3.snoc hb q⟩
theorem Res.step {l : List Nd} {a b : Nat} (h : a < l.length) (q : l[a].2.2.2.1 = true) (r : Res l l[a].2.2.2.2.toNat b) : Res l a b := by
  obtain ⟨⟨k, h1⟩, h2⟩ := r
  exact ⟨⟨k + 1, h, q, h1⟩, h2⟩
theorem Res.self {l : List Nd} {a : Nat} (h : a < l.length) (q : l[a].2.2.2.1 = false) : Res l a a := ⟨⟨0, rfl⟩, h, q⟩
theorem ed_ind {l : List Nd} {a : Nat} (h : a < l.length) (q : l[a].2.2.2.1 = true) (hz : 0 ≤ l[a].2.2.2.2) : Ed l a l[a].2.2.2.2.toNat := ⟨h, by unfold downL; rw [if_pos q]; simp; omega⟩
set_option maxHeartbeats 1000000 in
theorem hres_no {B : Nat → Prop} {w : World} {h g room : Nat} {l : List Nd} (p : HpB B w h g room l) (a : Int) (ha : ¬ (0 ≤ a ∧ a < (l.length : Int))) : Calls Try.prog 22 #[.pointer (some ⟨h, 0, none⟩), .int .i64 a] w fun e w' => e = .returned (.tuple #[.int .i64 0, .int .i64 112]) ∧ Same0 w w' := by
  have k1 : Same0 w (w.alloc (.cells #[.int .i64 a] 3)) := (Kept.refl _ _).alloc _
  have C := refusal_hp (p.same k1) 1 (ints_one w a) (by simp)
  rw [refE_no ha] at C
  clear p ha
  go_enter Try.func22, Try.ntmps22
  go_wp2_with (first | (go_at_call 46; refine C.mono ?_; rintro e w' ⟨rfl, rfl⟩))
  go_ret2
  exact ⟨rfl, k1⟩
set_option maxHeartbeats 2000000 in
theorem hres_yes {B : Nat → Prop} {w : World} {h g room : Nat} {l : List Nd} (p : HpB B w h g room l) (i : Nat) (hi : i < l.length) : Calls Try.prog 22 #[.pointer (some ⟨h, 0, none⟩), .int .i64 (i : Int)] w fun e w' => ∃ b : Nat, e = .returned (.tuple #[.int .i64 (b : Int), .int .i64 0]) ∧ Res l i b ∧ Same0 w w' := by
  have k1 : Same0 w (w.alloc (.cells #[.int .i64 (i : Int)] 3)) := (Kept.refl _ _).alloc _
  have p1 := p.same k1
  have C := refusal_hp p1 1 (ints_one w (i : Int)) (by simp)
  rw [refE_one (by omega)] at C
  obtain ⟨c0, c1⟩ := p1.cells
  obtain ⟨r, hr⟩ := p.ac
  have HR : Hid (∀ i j, Ed l i j → r j < r i) := hr
  have HE : Hid (∀ j (hj : j < l.length), NdC B (w.alloc (.cells #[.int .i64 (i : Int)] 3)) g (j * 5) l[j]) := p1.each
  have HM : Hid (∀ x ∈ l, mayB l.length x = true) := p.may
  have hle := p.le
  have K1 : Hid (Same0 w (w.alloc (.cells #[.int .i64 (i : Int)] 3))) := k1
  clear p p1 k1 hr
  go_enter Try.func22, Try.ntmps22
  go_upto_region 4 with (first | (go_at_call 46; refine C.mono ?_; rintro e w' ⟨rfl, rfl⟩))
  clear C
  go_loop [1] (fun v => ∃ a : Nat, a < l.length ∧ v = .int .i64 (a : Int) ∧ Hid (∃ k, Ind l k i a)) (fun v => r (intOf v).toNat)
  case atStart => exact ⟨i, hi, rfl, 0, rfl⟩
  case round =>
    obtain ⟨a, ha, rfl, hk⟩ := hrel
    obtain ⟨ao, ac, n0, n1, n2, n3, n4, -, -⟩ := HE.out a ha
    have i1 : (0 : Int) ≤ (a : Int) := by omega
    have i2 : (a : Int) < (room : Int) := by omega
    have mf := may_facts (HM.out _ (List.getElem_mem ha))
    cases hp : l[a].2.2.2.1
    · rw [hp] at n3
      have HP : Hid (l[a].2.2.2.1 = false) := hp
      clear hp mf n0 n1 n2 n4
      go_wp2
      go_ret2
      exact ⟨a, rfl, ⟨hk.out, ha, HP.out⟩, K1.out⟩
    · rw [hp] at n3
      have HP : Hid (l[a].2.2.2.1 = true) := hp
      obtain ⟨m1, m2, -⟩ := mf.2.2.2.2.2.1 hp
      obtain ⟨t, ht⟩ : ∃ t : Nat, l[a].2.2.2.2 = (t : Int) := ⟨l[a].2.2.2.2.toNat, by omega⟩
      have HT : Hid (l[a].2.2.2.2 = (t : Int)) := ht
      rw [ht] at n4
      have hlt : t < l.length := by omega
      clear hp mf n0 n1 n2 m1 m2 ht
      go_wp2
      go_round
      case rel => exact ⟨t, hlt, rfl, by
        obtain ⟨k, hk⟩ := hk.out
        have := hk.snoc ha HP.out
        rw [HT.out] at this
        exact ⟨k + 1, by simpa using this⟩⟩
      case measure =>
        have := HR.out a t (by have := ed_ind ha HP.out (by rw [HT.out]; omega); rw [HT.out] at this; simpa using this)
        simpa [intOf] using this
end Go.Proofs.Ytcbplgfkgkefeaa
