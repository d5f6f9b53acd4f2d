/- The walk of SpinePlays: every script on two spines. -/
import Derived.Test.YtikcocjbbbdmgaaSpineDo
namespace Go.Proofs.Ytikcocjbbbdmgaa
set_option maxRecDepth 100000
set_option linter.unusedVariables false
open Go.RowKit
attribute [local go_sem ↓] Go.wp_at_zero Go.wp_at_succ
theorem do_any {w0 w : World} {base : Nat} {s : Nat} {v : Value} {r : Nat} {u : Value} {l : List Fr} {m : Nat} (h : Pr base w s v r u l m) (hm : m ≤ 1048577) (hs : Same0 w0 w) (hbase : base = w0.heap.size) (K : Int) (two : Bool) {f : Fr} {fo : Option Addr} {fc : Nat} (hF : Arg w0 fo f.2.2.2 fc) (hfp : f.2.2.2.length ≤ 1048576) {dao : Option Addr} {dt : List Int} {dac : Nat} (hD : Arg w0 dao dt dac) (hdp : dt.length ≤ 1048576) :
    Calls Try.prog 12 #[.pointer (some ⟨s, 0, none⟩), .pointer (some ⟨r, 0, none⟩), opV K two f fo fc dao dt.length dac] w fun e w' => e = .returned (.bool true) ∧ DoQ base w s v r u m w' := by
  by_cases e1 : K = 1
  · subst e1; exact do_push h hm hs hbase two hF hfp hD hdp
  by_cases e2 : K = 2
  · subst e2; exact do_pop h hm hs hbase two hF hfp hD hdp
  by_cases e3 : K = 3
  · subst e3; exact do_top h hm hs hbase two hF hfp hD hdp
  by_cases e4 : K = 4
  · subst e4; exact do_turn h hm hs hbase two hF hfp hD hdp
  by_cases e5 : K = 5
  · subst e5; exact do_path h hm hs hbase two hF hfp hD hdp
  by_cases e6 : K = 6
  · subst e6; exact do_nodes h hm hs hbase two hF hfp hD hdp
  by_cases e7 : K = 7
  · subst e7; exact do_frames h hm hs hbase two hF hfp hD hdp
  by_cases e8 : K = 8
  · subst e8; exact do_move h hm hs hbase two hF hfp hD hdp
  by_cases e9 : K = 9
  · subst e9; exact do_len h hm hs hbase two hF hfp hD hdp
  exact do_none h hm hs hbase (fun j h1 h2 e => by omega) two hF hfp hD hdp
theorem SpT.down {t : TypeId} {B : Nat → Prop} {base base' : Nat} {w : World} {s : Nat} {v : Value} {l : List Fr} (h : SpT t B base w s v l) (hb : base' ≤ base) : SpT t B base' w s v l := by
  obtain ⟨vs, h1, h2, h3⟩ := h.row
  exact ⟨h.box, ⟨vs, row_mono h1 hb, h2, h3⟩, Nat.le_trans hb h.low, h.dif⟩
/-- Two pairs of spines, apart. -/
structure TwoP (w0 : World) (w : World) (a x b y : Nat) (m : Nat) : Prop where
  ex : ∃ va ux la vb uy lb, Pr w0.heap.size w a va x ux la m ∧ Pr w0.heap.size w b vb y uy lb m ∧ (∀ k, OwnP a va x ux k → ¬ OwnP b vb y uy k)
  sm : Same0 w0 w
theorem TwoP.first {w0 w : World} {a x b y : Nat} {m : Nat} (h : TwoP w0 w a x b y m) : ∃ va ux la, Pr w0.heap.size w a va x ux la m ∧ ∀ w', DoQ w0.heap.size w a va x ux m w' → TwoP w0 w' a x b y (m + 1) ∧ ∃ vb uy lb, Pr w0.heap.size w' b vb y uy lb m := by
  obtain ⟨va, ux, la, vb, uy, lb, h1, h2, h3⟩ := h.ex
  refine ⟨va, ux, la, h1, fun w' ⟨v', u', l', q1, q2, q3⟩ => ?_⟩
  have p2 : Pr w0.heap.size w' b vb y uy lb m := h2.kept q3 (fun k e f => h3 k f e) (fun k _ f => (h1.notI f).1)
  refine ⟨⟨⟨v', u', l', vb, uy, lb, q1, p2.more, fun k e f => ?_⟩, h.sm.trans q3 (fun i hi e => by have := (h1.notI e).2.1; omega)⟩, vb, uy, lb, p2⟩
  rcases q2 k e with r | r
  · exact h3 k r f
  · have := (h2.notI f).2.2; omega
theorem TwoP.swap {w0 w : World} {a x b y : Nat} {m : Nat} (h : TwoP w0 w a x b y m) : TwoP w0 w b y a x m := by
  obtain ⟨va, ux, la, vb, uy, lb, h1, h2, h3⟩ := h.ex
  exact ⟨⟨vb, uy, lb, va, ux, la, h2, h1, fun k e f => h3 k f e⟩, h.sm⟩
theorem TwoP.same {w0 w w' : World} {a x b y : Nat} {m : Nat} (h : TwoP w0 w a x b y m) (hk : Same0 w w') : TwoP w0 w' a x b y m := by
  obtain ⟨va, ux, la, vb, uy, lb, h1, h2, h3⟩ := h.ex
  exact ⟨⟨va, ux, la, vb, uy, lb, h1.same hk, h2.same hk, h3⟩, h.sm.trans' hk⟩
/-- A call that came in: its kind, of which spine, the frame, the list. -/
abbrev OpF := Int × Bool × Fr × List Int
/-- Calls that are read. -/
def OpsF (w : World) (ao : Option Addr) (os : List OpF) : Prop := os = [] ∨ ∃ b off, ao = some ⟨b, off, none⟩ ∧ b < w.heap.size ∧ ∀ i (hi : i < os.length), ∃ fo fc dao dac, w.cell? ⟨b, off + i * 7, none⟩ = some (.int .i64 os[i].1) ∧ w.cell? ⟨b, off + i * 7 + 1, none⟩ = some (.bool os[i].2.1) ∧ w.cell? ⟨b, off + i * 7 + 2, none⟩ = some (.int .i64 os[i].2.2.1.1) ∧ w.cell? ⟨b, off + i * 7 + 3, none⟩ = some (.bool os[i].2.2.1.2.1) ∧ w.cell? ⟨b, off + i * 7 + 4, none⟩ = some (.int .i64 os[i].2.2.1.2.2.1) ∧ w.cell? ⟨b, off + i * 7 + 5, none⟩ = some (.slice fo os[i].2.2.1.2.2.2.length fc) ∧ w.cell? ⟨b, off + i * 7 + 6, none⟩ = some (.slice dao os[i].2.2.2.length dac) ∧ Arg w fo os[i].2.2.1.2.2.2 fc ∧ Arg w dao os[i].2.2.2 dac
theorem OpsF.get {w w' : World} {ao : Option Addr} {os : List OpF} (h : OpsF w ao os) (hk : Same0 w w') {i : Nat} (hi : i < os.length) : ∃ b off fo fc dao dac, ao = some ⟨b, off, none⟩ ∧ w'.cell? ⟨b, off + i * 7, none⟩ = some (.int .i64 os[i].1) ∧ w'.cell? ⟨b, off + i * 7 + 1, none⟩ = some (.bool os[i].2.1) ∧ w'.cell? ⟨b, off + i * 7 + 2, none⟩ = some (.int .i64 os[i].2.2.1.1) ∧ w'.cell? ⟨b, off + i * 7 + 3, none⟩ = some (.bool os[i].2.2.1.2.1) ∧ w'.cell? ⟨b, off + i * 7 + 4, none⟩ = some (.int .i64 os[i].2.2.1.2.2.1) ∧ w'.cell? ⟨b, off + i * 7 + 5, none⟩ = some (.slice fo os[i].2.2.1.2.2.2.length fc) ∧ w'.cell? ⟨b, off + i * 7 + 6, none⟩ = some (.slice dao os[i].2.2.2.length dac) ∧ Arg w fo os[i].2.2.1.2.2.2 fc ∧ Arg w dao os[i].2.2.2 dac := by
  rcases h with rfl | ⟨b, off, e, hlt, hc⟩
  · simp at hi
  · obtain ⟨fo, fc, dao, dac, c0, c1, c2, c3, c4, c5, c6, a1, a2⟩ := hc i hi
    have t : ∀ o, w'.cell? ⟨b, o, none⟩ = w.cell? ⟨b, o, none⟩ := fun o => hk.cell (p := ⟨b, o, none⟩) hlt (fun f => f)
    exact ⟨b, off, fo, fc, dao, dac, e, (t _).trans c0, (t _).trans c1, (t _).trans c2, (t _).trans c3, (t _).trans c4, (t _).trans c5, (t _).trans c6, a1, a2⟩
/-- The beginning: four new spines. -/
theorem TwoP.start {w0 w1 w2 w3 w4 w5 : World} {va vb ux uy : Value} {x y : Nat} {ra rb : Int} (k1 : Same0 w0 w1)
    (pa : SpT 53 (fun k => w0.heap.size ≤ k) w1.heap.size w2 w1.heap.size va [(ra, true, 0, [])]) (k2 : Same0 w1 w2) (pb : SpT 53 (fun k => w0.heap.size ≤ k) w2.heap.size w3 w2.heap.size vb [(rb, true, 0, [])]) (k3 : Same0 w2 w3)
    (px : SpT 55 (fun k => w0.heap.size ≤ k) w3.heap.size w4 x ux [(ra, true, 0, [])]) (k4 : Same0 w3 w4) (py : SpT 55 (fun k => w0.heap.size ≤ k) w4.heap.size w5 y uy [(rb, true, 0, [])]) (k5 : Same0 w4 w5) : TwoP w0 w5 w1.heap.size x w2.heap.size y 1 := by
  have z1 := k1.size; have z2 := k2.size; have z3 := k3.size; have z4 := k4.size
  have A : ∀ k, k = w1.heap.size ∨ va.ownBlock = some k → w1.heap.size ≤ k ∧ k < w2.heap.size := fun k e => by
    rcases e with e | e
    · have := pa.lt; omega
    · have := pa.row.block e; exact ⟨this.1, this.2.1⟩
  have Bb : ∀ k, k = w2.heap.size ∨ vb.ownBlock = some k → w2.heap.size ≤ k ∧ k < w3.heap.size := fun k e => by
    rcases e with e | e
    · have := pb.lt; omega
    · have := pb.row.block e; exact ⟨this.1, this.2.1⟩
  have X : ∀ k, k = x ∨ ux.ownBlock = some k → w3.heap.size ≤ k ∧ k < w4.heap.size := fun k e => by
    rcases e with e | e
    · have := px.lt; have := px.low; omega
    · have := px.row.block e; exact ⟨this.1, this.2.1⟩
  have Y : ∀ k, k = y ∨ uy.ownBlock = some k → w4.heap.size ≤ k := fun k e => by
    rcases e with e | e
    · have := py.low; omega
    · exact (py.row.block e).1
  refine ⟨⟨va, ux, _, vb, uy, _, ⟨(pa.down (by omega)).same (k3.trans' (k4.trans' k5)), (px.down (by omega)).same k5, fun k e f => ?_, by simp, by simp⟩, ⟨(pb.down (by omega)).same (k4.trans' k5), py.down (by omega), fun k e f => ?_, by simp, by simp⟩, fun k e f => ?_⟩, k1.trans' (k2.trans' (k3.trans' (k4.trans' k5)))⟩
  · have := A k (.inr e); have := X k (.inr f); omega
  · have := Bb k (.inr e); have := Y k (.inr f); omega
  · have hA : (w1.heap.size ≤ k ∧ k < w2.heap.size) ∨ (w3.heap.size ≤ k ∧ k < w4.heap.size) := by
      rcases e with e | e | e | e
      · exact .inl (A k (.inl e))
      · exact .inl (A k (.inr e))
      · exact .inr (X k (.inl e))
      · exact .inr (X k (.inr e))
    have hB : (w2.heap.size ≤ k ∧ k < w3.heap.size) ∨ w4.heap.size ≤ k := by
      rcases f with f | f | f | f
      · exact .inl (Bb k (.inl f))
      · exact .inl (Bb k (.inr f))
      · exact .inr (Y k (.inl f))
      · exact .inr (Y k (.inr f))
    omega
set_option maxHeartbeats 4000000 in
theorem splays_walk {w : World} (ra rb : Int) {ao : Option Addr} {os : List OpF} (h : OpsF w ao os) (ac : Nat) (hl : os.length ≤ 1048576) (hb : ∀ o ∈ os, o.2.2.1.2.2.2.length ≤ 1048576 ∧ o.2.2.2.length ≤ 1048576) :
    Calls Try.prog 3 #[.int .i64 ra, .int .i64 rb, .slice ao os.length ac] w fun e w' => e = .returned (.bool true) ∧ Below w.heap.size w w' := by
  have C0 := awake14_any w
  have HB : Hid (∀ ww, Same0 w ww → Below w.heap.size w ww) := fun ww hk => Kept.below hk (Nat.le_refl _) (fun _ _ f => f)
  have HO : Hid (OpsF w ao os ∧ ∀ o ∈ os, o.2.2.1.2.2.2.length ≤ 1048576 ∧ o.2.2.2.length ≤ 1048576) := ⟨h, hb⟩
  clear h hb
  go_enter Try.func3, Try.ntmps3
  go_upto_region 2 with (first | (go_at_call 9; refine C0.mono ?_; rintro e w1 ⟨rfl, k1⟩))
  have C1 := snewF_any w1 ra (fun k => w.heap.size ≤ k) (fun k h => Nat.le_trans k1.size h)
  have K1 : Hid (Same0 w w1) := k1
  clear C0 k1
  go_upto_region 3 with (first | (go_at_call 10; refine C1.mono ?_; rintro e w2 ⟨rfl, va, pa, k2⟩))
  have C2 := snewF_any w2 rb (fun k => w.heap.size ≤ k) (fun k h => Nat.le_trans (K1.out.trans' k2).size h)
  have PA : Hid (SpT 53 (fun k => w.heap.size ≤ k) w1.heap.size w2 w1.heap.size va [(ra, true, 0, [])] ∧ Same0 w1 w2) := ⟨pa, k2⟩
  clear C1 pa k2
  go_upto_region 4 with (first | (go_at_call 10; refine C2.mono ?_; rintro e w3 ⟨rfl, vb, pb, k3⟩))
  have C3 := rnewF_any w3 ra (fun k => w.heap.size ≤ k)
  have PBb : Hid (SpT 53 (fun k => w.heap.size ≤ k) w2.heap.size w3 w2.heap.size vb [(rb, true, 0, [])] ∧ Same0 w2 w3) := ⟨pb, k3⟩
  clear C2 pb k3
  go_upto_region 5 with (first | (go_at_call 11; refine C3.mono ?_; rintro e w4 ⟨x, ux, rfl, px, k4⟩))
  have C4 := rnewF_any w4 rb (fun k => w.heap.size ≤ k)
  have PX : Hid (SpT 55 (fun k => w.heap.size ≤ k) w3.heap.size w4 x ux [(ra, true, 0, [])] ∧ Same0 w3 w4) := ⟨px, k4⟩
  clear C3 px k4
  go_upto_region 6 with (first | (go_at_call 11; refine C4.mono ?_; rintro e w5 ⟨y, uy, rfl, py, k5⟩))
  have H5 : Hid (TwoP w w5 w1.heap.size x w2.heap.size y (0 + 1)) := TwoP.start K1.out PA.out.1 PA.out.2 PBb.out.1 PBb.out.2 PX.out.1 PX.out.2 py k5
  clear C4 py k5 PA PBb PX
  go_upto_region 9 with fail
  go_loopw [12] (fun i wr => ∃ k : Nat, i = .int .i64 (k : Int) ∧ k ≤ os.length ∧ Hid (TwoP w wr w1.heap.size x w2.heap.size y (k + 1))) (fun i _ => os.length - (intOf i).toNat)
  case atStart => exact ⟨0, rfl, Nat.zero_le _, H5⟩
  case round =>
    clear H5
    obtain ⟨k, rfl, hk, HT⟩ := hrel
    by_cases hlt : k < os.length
    · have i0 : (0 : Int) ≤ (k : Int) := by omega
      have i1 : (k : Int) < (os.length : Int) := by omega
      have i2 : IntKind.i64.wrap ((k : Int) + 1) = (k : Int) + 1 := fwrap (by omega) (by omega)
      obtain ⟨b, off, fo, fc, dao, dac, e, c0, c1, c2, c3, c4, c5, c6, a1, a2⟩ := HO.out.1.get HT.out.sm hlt
      subst e
      have HZ : Hid (os[k].2.2.1.2.2.2.length ≤ 1048576 ∧ os[k].2.2.2.length ≤ 1048576) := HO.out.2 _ (List.getElem_mem hlt)
      generalize os[k] = z at *
      obtain ⟨bz, hbz⟩ : ∃ bz, bz = z.2.1 := ⟨_, rfl⟩
      rw [← hbz] at c1
      clear hbz
      cases bz
      · skip
        obtain ⟨va, ux, la, pr, next⟩ := HT.out.first
        have CD := do_any pr (by omega) HT.out.sm rfl z.1 false a1 HZ.out.1 a2 HZ.out.2
        have HN : Hid (∀ w6, DoQ w.heap.size wr w1.heap.size va x ux (k + 1) w6 → Hid (TwoP w w6 w1.heap.size x w2.heap.size y (k + 1 + 1))) := fun w6 q6 => (next w6 q6).1
        clear pr next HT a1 a2
        go_wp2_with (first | (go_at_call 12; refine CD.mono ?_; rintro e w6 ⟨rfl, q6⟩; have HF := HN.out w6 q6; clear q6))
        go_roundw
        case rel => first | exact ⟨k + 1, by go_num, by omega, HF⟩ | ((repeat apply Exists.intro); exact ⟨⟨k + 1, by go_num, by omega, HF⟩, rfl⟩)
        case measure => simp [intOf]; omega
      · skip
        obtain ⟨va, ux, la, pr, next⟩ := HT.out.swap.first
        have CD := do_any pr (by omega) HT.out.sm rfl z.1 true a1 HZ.out.1 a2 HZ.out.2
        have HN : Hid (∀ w6, DoQ w.heap.size wr w2.heap.size va y ux (k + 1) w6 → Hid (TwoP w w6 w1.heap.size x w2.heap.size y (k + 1 + 1))) := fun w6 q6 => (next w6 q6).1.swap
        clear pr next HT a1 a2
        go_wp2_with (first | (go_at_call 12; refine CD.mono ?_; rintro e w6 ⟨rfl, q6⟩; have HF := HN.out w6 q6; clear q6))
        go_roundw
        case rel => first | exact ⟨k + 1, by go_num, by omega, HF⟩ | ((repeat apply Exists.intro); exact ⟨⟨k + 1, by go_num, by omega, HF⟩, rfl⟩)
        case measure => simp [intOf]; omega
    · have hkl : k = os.length := by omega
      subst hkl
      obtain ⟨va, ux, la, pr, next⟩ := HT.out.first
      have CD := do_any pr (by omega) HT.out.sm rfl 7 false (f := (0, false, 0, [])) (arg_none w) (by simp) (dt := []) (arg_none w) (by simp)
      have HN : Hid (∀ w6, DoQ w.heap.size wr w1.heap.size va x ux (os.length + 1) w6 → Calls Try.prog 12 #[.pointer (some ⟨w2.heap.size, 0, none⟩), .pointer (some ⟨y, 0, none⟩), opV 7 false (0, false, 0, []) none 0 none 0 0] w6 fun e w' => e = .returned (.bool true) ∧ Hid (Same0 w w')) := fun w6 q6 => by
        obtain ⟨t1, vb, uy, lb, p2⟩ := next w6 q6
        refine (do_any p2 (by omega) t1.sm rfl 7 false (f := (0, false, 0, [])) (arg_none w) (by simp) (dt := []) (arg_none w) (by simp)).mono (fun e w' ⟨h1, _, _, _, _, _, kk⟩ => ⟨h1, ?_⟩)
        exact t1.sm.trans kk (fun i hi e => by have := (p2.notI e).2.1; omega)
      clear pr next HT
      go_upto_region 20 with (first | (go_at_call 12; refine CD.mono ?_; rintro e w6 ⟨rfl, q6⟩))
      have CE := HN.out w6 q6
      clear CD HN q6
      go_wp2_with (first | (go_at_call 12; refine CE.mono ?_; rintro e w7 ⟨rfl, k7⟩))
      go_ret
      exact ⟨rfl, HB.out _ k7.out⟩
end Go.Proofs.Ytikcocjbbbdmgaa
