/- law14.do, kind by kind: the six texts SpineDo1 to SpineDo6 in one. -/
import Derived.Test.YtikcocjbbbdmgaaSpineDoP
namespace Go.Proofs.Ytikcocjbbbdmgaa
set_option maxRecDepth 100000
set_option linter.unusedVariables false
open Go.RowKit
attribute [local go_sem ↓] Go.wp_at_zero Go.wp_at_succ
set_option maxHeartbeats 4000000 in
theorem do_push {w0 w : World} {base : Nat} {s : Nat} {v : Value} {r : Nat} {u : Value} {l : List Fr} {m : Nat} (h : Pr base w s v r u l m) (hm : m ≤ 1048577) (hs : Same0 w0 w) (hbase : base = w0.heap.size) (two : Bool) {f : Fr} {fo : Option Addr} {fc : Nat} (hF : Arg w0 fo f.2.2.2 fc) (hfp : f.2.2.2.length ≤ 1048576) {dao : Option Addr} {dt : List Int} {dac : Nat} (hD : Arg w0 dao dt dac) (hdp : dt.length ≤ 1048576) :
    Calls Try.prog 12 #[.pointer (some ⟨s, 0, none⟩), .pointer (some ⟨r, 0, none⟩), opV 1 two f fo fc dao dt.length dac] w fun e w' => e = .returned (.bool true) ∧ DoQ base w s v r u m w' := by
  obtain ⟨W2, hW2⟩ : ∃ W2, W2 = (w.alloc (.cells #[.int .i64 1, .bool two, .int .i64 f.1, .bool f.2.1, .int .i64 f.2.2.1, .slice fo f.2.2.2.length fc, .slice dao dt.length dac] 32)).alloc (.cells #[.int .i64 f.1, .bool f.2.1, .int .i64 f.2.2.1, .slice fo f.2.2.2.length fc] 30) := ⟨_, rfl⟩
  have k2 : Same0 w W2 := by rw [hW2]; exact ((Kept.refl _ w).alloc _).alloc _
  have C0 := lent14_any (cap := fc) (show Arg W2 fo f.2.2.2 fc from ⟨hF.at'.same (hs.trans' k2), hF.cap', hF.nil, hF.size⟩)
  have HW2 : Hid (W2 = (w.alloc (.cells #[.int .i64 1, .bool two, .int .i64 f.1, .bool f.2.1, .int .i64 f.2.2.1, .slice fo f.2.2.2.length fc, .slice dao dt.length dac] 32)).alloc (.cells #[.int .i64 f.1, .bool f.2.1, .int .i64 f.2.2.1, .slice fo f.2.2.2.length fc] 30)) := hW2
  have HP : Hid (Pr base w s v r u l m ∧ Same0 w0 w ∧ base = w0.heap.size) := ⟨h, hs, hbase⟩
  have HA : Hid (Arg w0 fo f.2.2.2 fc ∧ Arg w0 dao dt dac) := ⟨hF, hD⟩
  have HM : Hid (m ≤ 1048577 ∧ f.2.2.2.length ≤ 1048576 ∧ dt.length ≤ 1048576) := ⟨hm, hfp, hdp⟩
  clear h hs hF hD k2 hm hfp hbase hdp
  go_enter Try.func12, Try.ntmps12
  go_upto_region 2 with fail
  rw [← hW2]
  clear hW2
  have bb : W2.cell? ⟨w.heap.size, 5, none⟩ = some (.slice fo f.2.2.2.length fc) := by
    rw [HW2.out]
    exact cellAt ((Below.heap_alloc _ _ _ (by simp)).trans (heap_alloc_new w (.cells #[.int .i64 1, .bool two, .int .i64 f.1, .bool f.2.1, .int .i64 f.2.2.1, .slice fo f.2.2.2.length fc, .slice dao dt.length dac] 32))) 5
  go_upto_region 3 with (first | (go_at_call 26; refine C0.mono ?_; rintro e w3 ⟨g, c, rfl, r3, hc3, k3⟩; obtain ⟨H, c1, c2⟩ := do_head HW2.out k3 r3 hc3))
  obtain ⟨W3, hW3⟩ : ∃ W3, W3 = w3.setCell ⟨w.heap.size + 1, 3, none⟩ (.slice (some ⟨g, 0, none⟩) f.2.2.2.length c) := ⟨_, rfl⟩
  rw [← hW3] at H ⊢
  have HH : Hid (DoH w W3 1 two f fo fc dao dt.length dac g c) := H
  obtain ⟨o0, o1, o2, o3, o4, o5, o6⟩ := box7 H.ob
  obtain ⟨f0, f1, f2, f3⟩ := box4 H.fb
  clear H c1 c2 k3 r3 hc3 hW3 bb C0 HW2
  have LG := (HH.out.lr.lt g rfl)
  have h3 : PB (fun k => base ≤ k ∧ k ≠ g) base W3 s v r u l m := ((HP.out.1.mono (B' := fun k => base ≤ k ∧ k < w.heap.size) (fun k a b => ⟨b, a⟩)).same HH.out.k).mono (fun k _ b => ⟨b.1, by have := LG.1; omega⟩)
  have hbz : base ≤ W3.heap.size := by have := h3.p.low; have := h3.p.lt; omega
  have C1 := push_any h3.p (HH.out.arg HM.out.2.1) (fun k hk => ⟨by omega, by have := LG.2; omega⟩) (by have := h3.len; have := HM.out.1; omega)
  have H3 : Hid (PB (fun k => base ≤ k ∧ k ≠ g) base W3 s v r u l m) := h3
  have HLG : Hid (w.heap.size + 2 ≤ g ∧ g < W3.heap.size) := LG
  clear h3 LG hbz
  go_upto_region 8 with (first | (go_at_call 19; refine C1.mono ?_; rintro e w4 ⟨⟨uu, rfl⟩, v4, p4, ow4, k4⟩))
  have nOwn : Hid (∀ k, OwnP s v r u k → k < w.heap.size) := fun k e => (HP.out.1.notI e).2.2
  have q4 := H3.out.left p4 k4
  have hz4 := k4.size
  have K04 : Same0 w0 w4 := (HP.out.2.1.trans' HH.out.k).trans k4 (fun i hi e => by
    have := HP.out.2.2
    have := (HP.out.1.notI (k := i) (e.elim .inl (fun e => .inr (.inl e)))).2.1
    omega)
  have nb4 : ∀ j, w.heap.size ≤ j → ¬ (j = s ∨ v.ownBlock = some j) := fun j hj e => by
    have := nOwn.out j (e.elim .inl (fun e => .inr (.inl e)))
    omega
  obtain ⟨a0, a1, a2, a3, a4, a5, a6⟩ := box7 (k4.at HH.out.ob (nb4 _ (Nat.le_refl _)))
  have C2 := rpush_any q4 (x := f) (ac := fc) (show Arg w4 fo f.2.2.2 fc from ⟨HA.out.1.at'.same K04, HA.out.1.cap', HA.out.1.nil, HA.out.1.size⟩) (fun k hk => ⟨by have := H3.out.p.low; have := H3.out.p.lt; omega, by have := HLG.out.2; omega⟩) (by have := H3.out.len; have := HM.out.1; omega)
  have P4 : Hid (SpT 53 (fun k => base ≤ k ∧ k ≠ g) base w4 s v4 (l ++ [f]) ∧ (∀ k, v4.ownBlock = some k → v.ownBlock = some k ∨ W3.heap.size ≤ k) ∧ Kept (fun k => k = s ∨ v.ownBlock = some k) W3 w4) := ⟨p4, ow4, k4⟩
  clear C1 p4 ow4 k4 q4 hz4 K04 nb4 o0 o1 o2 o3 o4 o5 o6 f0 f1 f2 f3
  go_upto_region 9 with (first | (go_at_call 27; refine C2.mono ?_; rintro e w5 ⟨⟨uu, rfl⟩, u5, q5, ow5, k5⟩))
  obtain ⟨h5, ow, kk⟩ := H3.out.both P4.out.1 P4.out.2.1 P4.out.2.2 q5 ow5 k5 (m1 := m + 1) (by have := H3.out.len; simp; omega) (fun x hx => by
    rcases List.mem_append.1 hx with e | e
    · exact H3.out.pth x e
    · rw [List.mem_singleton.1 e]; exact HM.out.2.1)
  have nb5 : ∀ j, w.heap.size ≤ j → ¬ OwnP s v r u j := fun j hj e => by have := nOwn.out j e; omega
  have K05 : Same0 w0 w5 := (HP.out.2.1.trans' HH.out.k).trans kk (fun i hi e => by
    have := HP.out.2.2
    have := (HP.out.1.notI e).2.1
    omega)
  obtain ⟨a0, a1, a2, a3, a4, a5, a6⟩ := box7 (kk.at HH.out.ob (nb5 _ (Nat.le_refl _)))
  obtain ⟨f0, f1, f2, f3⟩ := box4 (kk.at HH.out.fb (nb5 _ (by omega)))
  have lr5 := kk.row HH.out.lr (fun k e f => nb5 k (by have := (HH.out.lr.lt k e).1; omega) f)
  have CH := held14_any lr5 HH.out.lc (show Arg w5 fo f.2.2.2 fc from ⟨HA.out.1.at'.same K05, HA.out.1.cap', HA.out.1.nil, HA.out.1.size⟩) (fun h0 a e q => by
    have := HA.out.1.at'.ltF h0 e
    have := HLG.out.1
    have := HP.out.2.1.size
    omega)
  have FIN : Hid (∀ w6, Kept (fun i => i = g) w5 w6 → DoQ base w s v r u m w6) := fun w6 k6 => by
    refine ⟨v4, u5, l ++ [f], (h5.kept k6 (fun k e q => ?_) (fun k hb q => absurd q hb.2)).mono (fun k _ hb => hb.1), fun k e => (ow k e).imp id (fun q => Nat.le_trans HH.out.k.size q), ((HH.out.k.mono (fun _ _ f => f.elim)).trans kk (fun _ _ e => e)).trans k6 (fun i hi e => by have := HLG.out.1; omega)⟩
    have h1 := (h5.notI e).1
    obtain ⟨cur, hc⟩ := Row.isI lr5 (k := g) rfl
    rw [q] at h1
    exact h1 cur hc
  clear C2 h5 ow kk nb5 K05 lr5 q5 ow5 k5 P4 H3 nOwn
  go_wp2_with (first | (go_at_call 28; refine CH.mono ?_; rintro e w6 ⟨rfl, k6⟩))
  go_ret
  exact ⟨rfl, FIN.out _ k6⟩
set_option maxHeartbeats 4000000 in
theorem do_none {w0 w : World} {base : Nat} {s : Nat} {v : Value} {r : Nat} {u : Value} {l : List Fr} {m : Nat} (h : Pr base w s v r u l m) (hm : m ≤ 1048577) (hs : Same0 w0 w) (hbase : base = w0.heap.size) {K : Int} (hK : ∀ j : Int, 1 ≤ j → j ≤ 9 → K ≠ j) (two : Bool) {f : Fr} {fo : Option Addr} {fc : Nat} (hF : Arg w0 fo f.2.2.2 fc) (hfp : f.2.2.2.length ≤ 1048576) {dao : Option Addr} {dt : List Int} {dac : Nat} (hD : Arg w0 dao dt dac) (hdp : dt.length ≤ 1048576) :
    Calls Try.prog 12 #[.pointer (some ⟨s, 0, none⟩), .pointer (some ⟨r, 0, none⟩), opV K two f fo fc dao dt.length dac] w fun e w' => e = .returned (.bool true) ∧ DoQ base w s v r u m w' := by
  obtain ⟨W2, hW2⟩ : ∃ W2, W2 = (w.alloc (.cells #[.int .i64 K, .bool two, .int .i64 f.1, .bool f.2.1, .int .i64 f.2.2.1, .slice fo f.2.2.2.length fc, .slice dao dt.length dac] 32)).alloc (.cells #[.int .i64 f.1, .bool f.2.1, .int .i64 f.2.2.1, .slice fo f.2.2.2.length fc] 30) := ⟨_, rfl⟩
  have k2 : Same0 w W2 := by rw [hW2]; exact ((Kept.refl _ w).alloc _).alloc _
  have C0 := lent14_any (cap := fc) (show Arg W2 fo f.2.2.2 fc from ⟨hF.at'.same (hs.trans' k2), hF.cap', hF.nil, hF.size⟩)
  have HW2 : Hid (W2 = (w.alloc (.cells #[.int .i64 K, .bool two, .int .i64 f.1, .bool f.2.1, .int .i64 f.2.2.1, .slice fo f.2.2.2.length fc, .slice dao dt.length dac] 32)).alloc (.cells #[.int .i64 f.1, .bool f.2.1, .int .i64 f.2.2.1, .slice fo f.2.2.2.length fc] 30)) := hW2
  have HP : Hid (Pr base w s v r u l m ∧ Same0 w0 w ∧ base = w0.heap.size) := ⟨h, hs, hbase⟩
  have HA : Hid (Arg w0 fo f.2.2.2 fc ∧ Arg w0 dao dt dac) := ⟨hF, hD⟩
  have HM : Hid (m ≤ 1048577 ∧ f.2.2.2.length ≤ 1048576 ∧ dt.length ≤ 1048576) := ⟨hm, hfp, hdp⟩
  have e1 : ¬ K = 1 := hK 1 (by omega) (by omega)
  have e2 : ¬ K = 2 := hK 2 (by omega) (by omega)
  have e3 : ¬ K = 3 := hK 3 (by omega) (by omega)
  have e4 : ¬ K = 4 := hK 4 (by omega) (by omega)
  have e5 : ¬ K = 5 := hK 5 (by omega) (by omega)
  have e6 : ¬ K = 6 := hK 6 (by omega) (by omega)
  have e7 : ¬ K = 7 := hK 7 (by omega) (by omega)
  have e8 : ¬ K = 8 := hK 8 (by omega) (by omega)
  have e9 : ¬ K = 9 := hK 9 (by omega) (by omega)
  clear hK h hs hF hD k2 hm hfp hbase hdp
  go_enter Try.func12, Try.ntmps12
  go_upto_region 2 with fail
  rw [← hW2]
  clear hW2
  have bb : W2.cell? ⟨w.heap.size, 5, none⟩ = some (.slice fo f.2.2.2.length fc) := by
    rw [HW2.out]
    exact cellAt ((Below.heap_alloc _ _ _ (by simp)).trans (heap_alloc_new w (.cells #[.int .i64 K, .bool two, .int .i64 f.1, .bool f.2.1, .int .i64 f.2.2.1, .slice fo f.2.2.2.length fc, .slice dao dt.length dac] 32))) 5
  go_upto_region 3 with (first | (go_at_call 26; refine C0.mono ?_; rintro e w3 ⟨g, c, rfl, r3, hc3, k3⟩; obtain ⟨H, c1, c2⟩ := do_head HW2.out k3 r3 hc3))
  obtain ⟨W3, hW3⟩ : ∃ W3, W3 = w3.setCell ⟨w.heap.size + 1, 3, none⟩ (.slice (some ⟨g, 0, none⟩) f.2.2.2.length c) := ⟨_, rfl⟩
  rw [← hW3] at H ⊢
  have HH : Hid (DoH w W3 K two f fo fc dao dt.length dac g c) := H
  obtain ⟨o0, o1, o2, o3, o4, o5, o6⟩ := box7 H.ob
  obtain ⟨f0, f1, f2, f3⟩ := box4 H.fb
  clear H c1 c2 k3 r3 hc3 hW3 bb C0 HW2
  have FIN : Hid (DoQ base w s v r u m W3) := DoQ.still HP.out.1 HH.out.k
  go_wp2
  go_ret
  exact ⟨rfl, FIN.out⟩
set_option maxHeartbeats 4000000 in
theorem do_len {w0 w : World} {base : Nat} {s : Nat} {v : Value} {r : Nat} {u : Value} {l : List Fr} {m : Nat} (h : Pr base w s v r u l m) (hm : m ≤ 1048577) (hs : Same0 w0 w) (hbase : base = w0.heap.size) (two : Bool) {f : Fr} {fo : Option Addr} {fc : Nat} (hF : Arg w0 fo f.2.2.2 fc) (hfp : f.2.2.2.length ≤ 1048576) {dao : Option Addr} {dt : List Int} {dac : Nat} (hD : Arg w0 dao dt dac) (hdp : dt.length ≤ 1048576) :
    Calls Try.prog 12 #[.pointer (some ⟨s, 0, none⟩), .pointer (some ⟨r, 0, none⟩), opV 9 two f fo fc dao dt.length dac] w fun e w' => e = .returned (.bool true) ∧ DoQ base w s v r u m w' := by
  obtain ⟨W2, hW2⟩ : ∃ W2, W2 = (w.alloc (.cells #[.int .i64 9, .bool two, .int .i64 f.1, .bool f.2.1, .int .i64 f.2.2.1, .slice fo f.2.2.2.length fc, .slice dao dt.length dac] 32)).alloc (.cells #[.int .i64 f.1, .bool f.2.1, .int .i64 f.2.2.1, .slice fo f.2.2.2.length fc] 30) := ⟨_, rfl⟩
  have k2 : Same0 w W2 := by rw [hW2]; exact ((Kept.refl _ w).alloc _).alloc _
  have C0 := lent14_any (cap := fc) (show Arg W2 fo f.2.2.2 fc from ⟨hF.at'.same (hs.trans' k2), hF.cap', hF.nil, hF.size⟩)
  have HW2 : Hid (W2 = (w.alloc (.cells #[.int .i64 9, .bool two, .int .i64 f.1, .bool f.2.1, .int .i64 f.2.2.1, .slice fo f.2.2.2.length fc, .slice dao dt.length dac] 32)).alloc (.cells #[.int .i64 f.1, .bool f.2.1, .int .i64 f.2.2.1, .slice fo f.2.2.2.length fc] 30)) := hW2
  have HP : Hid (Pr base w s v r u l m ∧ Same0 w0 w ∧ base = w0.heap.size) := ⟨h, hs, hbase⟩
  have HA : Hid (Arg w0 fo f.2.2.2 fc ∧ Arg w0 dao dt dac) := ⟨hF, hD⟩
  have HM : Hid (m ≤ 1048577 ∧ f.2.2.2.length ≤ 1048576 ∧ dt.length ≤ 1048576) := ⟨hm, hfp, hdp⟩
  clear h hs hF hD k2 hm hfp hbase hdp
  go_enter Try.func12, Try.ntmps12
  go_upto_region 2 with fail
  rw [← hW2]
  clear hW2
  have bb : W2.cell? ⟨w.heap.size, 5, none⟩ = some (.slice fo f.2.2.2.length fc) := by
    rw [HW2.out]
    exact cellAt ((Below.heap_alloc _ _ _ (by simp)).trans (heap_alloc_new w (.cells #[.int .i64 9, .bool two, .int .i64 f.1, .bool f.2.1, .int .i64 f.2.2.1, .slice fo f.2.2.2.length fc, .slice dao dt.length dac] 32))) 5
  go_upto_region 3 with (first | (go_at_call 26; refine C0.mono ?_; rintro e w3 ⟨g, c, rfl, r3, hc3, k3⟩; obtain ⟨H, c1, c2⟩ := do_head HW2.out k3 r3 hc3))
  obtain ⟨W3, hW3⟩ : ∃ W3, W3 = w3.setCell ⟨w.heap.size + 1, 3, none⟩ (.slice (some ⟨g, 0, none⟩) f.2.2.2.length c) := ⟨_, rfl⟩
  rw [← hW3] at H ⊢
  have HH : Hid (DoH w W3 9 two f fo fc dao dt.length dac g c) := H
  obtain ⟨o0, o1, o2, o3, o4, o5, o6⟩ := box7 H.ob
  obtain ⟨f0, f1, f2, f3⟩ := box4 H.fb
  clear H c1 c2 k3 r3 hc3 hW3 bb C0 HW2
  have FIN : Hid (∀ ww, Same0 W3 ww → DoQ base w s v r u m ww) := fun ww hk => DoQ.still HP.out.1 (HH.out.k.trans' hk)
  have hd := (HP.out.1.same HH.out.k).same (show Same0 W3 W3.drew from (Kept.refl _ _).drew)
  have C1 := slenF_any hd.p
  have c0 := hd.q.cell.1
  obtain ⟨uo, uc, rfl⟩ := HP.out.1.q.row.shape
  have KD : Hid (Same0 W3 W3.drew) := (Kept.refl _ _).drew
  clear hd
  go_upto_region 48 with fail
  go_region_with (first | (go_at_call 14; refine C1.mono ?_; rintro e w4 ⟨rfl, h4⟩; have h4 := h4.symm; subst h4))
  all_goals
    go_wp2
    go_ret
    exact ⟨by first | rfl | simp, FIN.out _ KD.out⟩
set_option maxHeartbeats 4000000 in
theorem do_path {w0 w : World} {base : Nat} {s : Nat} {v : Value} {r : Nat} {u : Value} {l : List Fr} {m : Nat} (h : Pr base w s v r u l m) (hm : m ≤ 1048577) (hs : Same0 w0 w) (hbase : base = w0.heap.size) (two : Bool) {f : Fr} {fo : Option Addr} {fc : Nat} (hF : Arg w0 fo f.2.2.2 fc) (hfp : f.2.2.2.length ≤ 1048576) {dao : Option Addr} {dt : List Int} {dac : Nat} (hD : Arg w0 dao dt dac) (hdp : dt.length ≤ 1048576) :
    Calls Try.prog 12 #[.pointer (some ⟨s, 0, none⟩), .pointer (some ⟨r, 0, none⟩), opV 5 two f fo fc dao dt.length dac] w fun e w' => e = .returned (.bool true) ∧ DoQ base w s v r u m w' := by
  obtain ⟨W2, hW2⟩ : ∃ W2, W2 = (w.alloc (.cells #[.int .i64 5, .bool two, .int .i64 f.1, .bool f.2.1, .int .i64 f.2.2.1, .slice fo f.2.2.2.length fc, .slice dao dt.length dac] 32)).alloc (.cells #[.int .i64 f.1, .bool f.2.1, .int .i64 f.2.2.1, .slice fo f.2.2.2.length fc] 30) := ⟨_, rfl⟩
  have k2 : Same0 w W2 := by rw [hW2]; exact ((Kept.refl _ w).alloc _).alloc _
  have C0 := lent14_any (cap := fc) (show Arg W2 fo f.2.2.2 fc from ⟨hF.at'.same (hs.trans' k2), hF.cap', hF.nil, hF.size⟩)
  have HW2 : Hid (W2 = (w.alloc (.cells #[.int .i64 5, .bool two, .int .i64 f.1, .bool f.2.1, .int .i64 f.2.2.1, .slice fo f.2.2.2.length fc, .slice dao dt.length dac] 32)).alloc (.cells #[.int .i64 f.1, .bool f.2.1, .int .i64 f.2.2.1, .slice fo f.2.2.2.length fc] 30)) := hW2
  have HP : Hid (Pr base w s v r u l m ∧ Same0 w0 w ∧ base = w0.heap.size) := ⟨h, hs, hbase⟩
  have HA : Hid (Arg w0 fo f.2.2.2 fc ∧ Arg w0 dao dt dac) := ⟨hF, hD⟩
  have HM : Hid (m ≤ 1048577 ∧ f.2.2.2.length ≤ 1048576 ∧ dt.length ≤ 1048576) := ⟨hm, hfp, hdp⟩
  clear h hs hF hD k2 hm hfp hbase hdp
  go_enter Try.func12, Try.ntmps12
  go_upto_region 2 with fail
  rw [← hW2]
  clear hW2
  have bb : W2.cell? ⟨w.heap.size, 5, none⟩ = some (.slice fo f.2.2.2.length fc) := by
    rw [HW2.out]
    exact cellAt ((Below.heap_alloc _ _ _ (by simp)).trans (heap_alloc_new w (.cells #[.int .i64 5, .bool two, .int .i64 f.1, .bool f.2.1, .int .i64 f.2.2.1, .slice fo f.2.2.2.length fc, .slice dao dt.length dac] 32))) 5
  go_upto_region 3 with (first | (go_at_call 26; refine C0.mono ?_; rintro e w3 ⟨g, c, rfl, r3, hc3, k3⟩; obtain ⟨H, c1, c2⟩ := do_head HW2.out k3 r3 hc3))
  obtain ⟨W3, hW3⟩ : ∃ W3, W3 = w3.setCell ⟨w.heap.size + 1, 3, none⟩ (.slice (some ⟨g, 0, none⟩) f.2.2.2.length c) := ⟨_, rfl⟩
  rw [← hW3] at H ⊢
  have HH : Hid (DoH w W3 5 two f fo fc dao dt.length dac g c) := H
  obtain ⟨o0, o1, o2, o3, o4, o5, o6⟩ := box7 H.ob
  obtain ⟨f0, f1, f2, f3⟩ := box4 H.fb
  clear H c1 c2 k3 r3 hc3 hW3 bb C0 HW2
  have h3 := HP.out.1.same HH.out.k
  obtain ⟨bp, bl⟩ := h3.paths (by have := HM.out.1; omega)
  have C1 := path_any h3.p (by omega)
  have H3 : Hid (Pr base W3 s v r u l m ∧ (pathsL l).length * 8 ≤ 140737488351232 ∧ (pathsL l).length * 8 ≤ 140737488355328) := ⟨h3, by omega, by omega⟩
  clear h3 bp bl
  go_upto_region 27 with (first | (go_at_call 20; refine C1.mono ?_; rintro e w4 ⟨u4, rfl, r4, k4⟩))
  have C2 := rpath_any (H3.out.1.q.same k4) H3.out.2.2
  obtain ⟨xo, xc, e4⟩ := row_shape r4
  subst e4
  have R4 : Hid (Row W3.heap.size w4 (.slice xo (pathsL l).length xc) (pathsL l) ∧ Same0 W3 w4) := ⟨r4, k4⟩
  have HS : Hid (∀ w5 uo uc, Row w4.heap.size w5 (.slice uo (pathsL l).length uc) (pathsL l) → Same0 w4 w5 → Calls Try.prog 21 #[.slice xo (pathsL l).length xc, .slice uo (pathsL l).length uc] w5 fun e w' => e = .returned (.bool true) ∧ Same0 w4 w') := fun w5 uo uc q1 q2 => by
    have := sameInts_any xc uc ((Row.intsX R4.out.1).same q2) (Row.intsX q1) (by have := H3.out.2.1; unfold maxLen; omega)
    rw [show eqI (pathsL l) (pathsL l) = true by unfold eqI; simp] at this
    exact this.mono (fun e w' ⟨a, b⟩ => ⟨a, q2.trans' b⟩)
  clear C1 r4 k4
  go_upto_region 28 with (first | (go_at_call 33; refine C2.mono ?_; rintro e w5 ⟨u5, rfl, r5, k5⟩; obtain ⟨yo, yc, e5⟩ := row_shape r5; subst e5; have CS := HS.out w5 yo yc r5 k5) | (go_at_call 21; refine CS.mono ?_; rintro e w6 ⟨rfl, k6⟩))
  have r6 := k6.row R4.out.1 (fun _ _ f => f)
  have CP := spoil14_any r6 rfl H3.out.2.1 (Nat.le_trans R4.out.2.size k6.size)
  have FIN : Hid (∀ w7, Kept (fun i => (Value.slice xo (pathsL l).length xc).ownBlock = some i) w6 w7 → DoQ base w s v r u m w7) := fun w7 k7 => DoQ.still HP.out.1 (HH.out.k.trans' ((R4.out.2.trans' k6).trans k7 (fun i hi e => by have := (R4.out.1.lt i e).1; omega)))
  clear C2 HS CS r5 k5 r6 k6 H3
  go_wp2_with (first | (go_at_call 31; refine CP.mono ?_; rintro e w7 ⟨⟨uu, rfl⟩, k7⟩))
  go_ret
  exact ⟨rfl, FIN.out _ k7⟩
set_option maxHeartbeats 4000000 in
theorem do_nodes {w0 w : World} {base : Nat} {s : Nat} {v : Value} {r : Nat} {u : Value} {l : List Fr} {m : Nat} (h : Pr base w s v r u l m) (hm : m ≤ 1048577) (hs : Same0 w0 w) (hbase : base = w0.heap.size) (two : Bool) {f : Fr} {fo : Option Addr} {fc : Nat} (hF : Arg w0 fo f.2.2.2 fc) (hfp : f.2.2.2.length ≤ 1048576) {dao : Option Addr} {dt : List Int} {dac : Nat} (hD : Arg w0 dao dt dac) (hdp : dt.length ≤ 1048576) :
    Calls Try.prog 12 #[.pointer (some ⟨s, 0, none⟩), .pointer (some ⟨r, 0, none⟩), opV 6 two f fo fc dao dt.length dac] w fun e w' => e = .returned (.bool true) ∧ DoQ base w s v r u m w' := by
  obtain ⟨W2, hW2⟩ : ∃ W2, W2 = (w.alloc (.cells #[.int .i64 6, .bool two, .int .i64 f.1, .bool f.2.1, .int .i64 f.2.2.1, .slice fo f.2.2.2.length fc, .slice dao dt.length dac] 32)).alloc (.cells #[.int .i64 f.1, .bool f.2.1, .int .i64 f.2.2.1, .slice fo f.2.2.2.length fc] 30) := ⟨_, rfl⟩
  have k2 : Same0 w W2 := by rw [hW2]; exact ((Kept.refl _ w).alloc _).alloc _
  have C0 := lent14_any (cap := fc) (show Arg W2 fo f.2.2.2 fc from ⟨hF.at'.same (hs.trans' k2), hF.cap', hF.nil, hF.size⟩)
  have HW2 : Hid (W2 = (w.alloc (.cells #[.int .i64 6, .bool two, .int .i64 f.1, .bool f.2.1, .int .i64 f.2.2.1, .slice fo f.2.2.2.length fc, .slice dao dt.length dac] 32)).alloc (.cells #[.int .i64 f.1, .bool f.2.1, .int .i64 f.2.2.1, .slice fo f.2.2.2.length fc] 30)) := hW2
  have HP : Hid (Pr base w s v r u l m ∧ Same0 w0 w ∧ base = w0.heap.size) := ⟨h, hs, hbase⟩
  have HA : Hid (Arg w0 fo f.2.2.2 fc ∧ Arg w0 dao dt dac) := ⟨hF, hD⟩
  have HM : Hid (m ≤ 1048577 ∧ f.2.2.2.length ≤ 1048576 ∧ dt.length ≤ 1048576) := ⟨hm, hfp, hdp⟩
  clear h hs hF hD k2 hm hfp hbase hdp
  go_enter Try.func12, Try.ntmps12
  go_upto_region 2 with fail
  rw [← hW2]
  clear hW2
  have bb : W2.cell? ⟨w.heap.size, 5, none⟩ = some (.slice fo f.2.2.2.length fc) := by
    rw [HW2.out]
    exact cellAt ((Below.heap_alloc _ _ _ (by simp)).trans (heap_alloc_new w (.cells #[.int .i64 6, .bool two, .int .i64 f.1, .bool f.2.1, .int .i64 f.2.2.1, .slice fo f.2.2.2.length fc, .slice dao dt.length dac] 32))) 5
  go_upto_region 3 with (first | (go_at_call 26; refine C0.mono ?_; rintro e w3 ⟨g, c, rfl, r3, hc3, k3⟩; obtain ⟨H, c1, c2⟩ := do_head HW2.out k3 r3 hc3))
  obtain ⟨W3, hW3⟩ : ∃ W3, W3 = w3.setCell ⟨w.heap.size + 1, 3, none⟩ (.slice (some ⟨g, 0, none⟩) f.2.2.2.length c) := ⟨_, rfl⟩
  rw [← hW3] at H ⊢
  have HH : Hid (DoH w W3 6 two f fo fc dao dt.length dac g c) := H
  obtain ⟨o0, o1, o2, o3, o4, o5, o6⟩ := box7 H.ob
  obtain ⟨f0, f1, f2, f3⟩ := box4 H.fb
  clear H c1 c2 k3 r3 hc3 hW3 bb C0 HW2
  have h3 := HP.out.1.same HH.out.k
  obtain ⟨bp, bl⟩ := h3.paths (by have := HM.out.1; omega)
  have C1 := nodes_any h3.p (by omega)
  have H3 : Hid (Pr base W3 s v r u l m ∧ (nodesL l).length * 8 ≤ 140737488351232 ∧ l.length * 8 ≤ 140737488355328) := ⟨h3, by unfold nodesL; rw [List.length_map]; omega, by omega⟩
  clear h3 bp bl
  go_upto_region 31 with (first | (go_at_call 25; refine C1.mono ?_; rintro e w4 ⟨u4, rfl, r4, k4⟩))
  have C2 := rnodes_any (H3.out.1.q.same k4) H3.out.2.2
  obtain ⟨xo, xc, e4⟩ := row_shape r4
  subst e4
  have R4 : Hid (Row W3.heap.size w4 (.slice xo (nodesL l).length xc) (nodesL l) ∧ Same0 W3 w4) := ⟨r4, k4⟩
  have HS : Hid (∀ w5 uo uc, Row w4.heap.size w5 (.slice uo (nodesL l).length uc) (nodesL l) → Same0 w4 w5 → Calls Try.prog 21 #[.slice xo (nodesL l).length xc, .slice uo (nodesL l).length uc] w5 fun e w' => e = .returned (.bool true) ∧ Same0 w4 w') := fun w5 uo uc q1 q2 => by
    have := sameInts_any xc uc ((Row.intsX R4.out.1).same q2) (Row.intsX q1) (by have := H3.out.2.1; unfold maxLen; omega)
    rw [show eqI (nodesL l) (nodesL l) = true by unfold eqI; simp] at this
    exact this.mono (fun e w' ⟨a, b⟩ => ⟨a, q2.trans' b⟩)
  clear C1 r4 k4
  go_upto_region 32 with (first | (go_at_call 34; refine C2.mono ?_; rintro e w5 ⟨u5, rfl, r5, k5⟩; obtain ⟨yo, yc, e5⟩ := row_shape r5; subst e5; have CS := HS.out w5 yo yc r5 k5) | (go_at_call 21; refine CS.mono ?_; rintro e w6 ⟨rfl, k6⟩))
  have r6 := k6.row R4.out.1 (fun _ _ f => f)
  have CP := spoil14_any r6 rfl H3.out.2.1 (Nat.le_trans R4.out.2.size k6.size)
  have FIN : Hid (∀ w7, Kept (fun i => (Value.slice xo (nodesL l).length xc).ownBlock = some i) w6 w7 → DoQ base w s v r u m w7) := fun w7 k7 => DoQ.still HP.out.1 (HH.out.k.trans' ((R4.out.2.trans' k6).trans k7 (fun i hi e => by have := (R4.out.1.lt i e).1; omega)))
  clear C2 HS CS r5 k5 r6 k6 H3
  go_wp2_with (first | (go_at_call 31; refine CP.mono ?_; rintro e w7 ⟨⟨uu, rfl⟩, k7⟩))
  go_ret
  exact ⟨rfl, FIN.out _ k7⟩
theorem mvF_pth {l : List Fr} {dt : List Int} {m : Nat} (h : ∀ x ∈ l, x.2.2.2.length ≤ m) (k : Nat) : ∀ x ∈ mvF l dt k, x.2.2.2.length ≤ m := by
  induction k with
  | zero => exact h
  | succ k ih =>
    unfold mvF
    split
    · rename_i z x hz hx
      intro y hy
      rcases List.mem_or_eq_of_mem_set hy with e | e
      · exact ih y e
      · rw [e]; exact ih x (List.mem_of_getElem? hx)
    · exact ih
theorem mvR_pth {l : List Fr} {dt : List Int} {m : Nat} (h : ∀ x ∈ l, x.2.2.2.length ≤ m) : ∀ x ∈ mvR l dt, x.2.2.2.length ≤ m := by
  unfold mvR
  split
  · exact mvF_pth h _
  · exact h
set_option maxHeartbeats 4000000 in
theorem do_move {w0 w : World} {base : Nat} {s : Nat} {v : Value} {r : Nat} {u : Value} {l : List Fr} {m : Nat} (h : Pr base w s v r u l m) (hm : m ≤ 1048577) (hs : Same0 w0 w) (hbase : base = w0.heap.size) (two : Bool) {f : Fr} {fo : Option Addr} {fc : Nat} (hF : Arg w0 fo f.2.2.2 fc) (hfp : f.2.2.2.length ≤ 1048576) {dao : Option Addr} {dt : List Int} {dac : Nat} (hD : Arg w0 dao dt dac) (hdp : dt.length ≤ 1048576) :
    Calls Try.prog 12 #[.pointer (some ⟨s, 0, none⟩), .pointer (some ⟨r, 0, none⟩), opV 8 two f fo fc dao dt.length dac] w fun e w' => e = .returned (.bool true) ∧ DoQ base w s v r u m w' := by
  obtain ⟨W2, hW2⟩ : ∃ W2, W2 = (w.alloc (.cells #[.int .i64 8, .bool two, .int .i64 f.1, .bool f.2.1, .int .i64 f.2.2.1, .slice fo f.2.2.2.length fc, .slice dao dt.length dac] 32)).alloc (.cells #[.int .i64 f.1, .bool f.2.1, .int .i64 f.2.2.1, .slice fo f.2.2.2.length fc] 30) := ⟨_, rfl⟩
  have k2 : Same0 w W2 := by rw [hW2]; exact ((Kept.refl _ w).alloc _).alloc _
  have C0 := lent14_any (cap := fc) (show Arg W2 fo f.2.2.2 fc from ⟨hF.at'.same (hs.trans' k2), hF.cap', hF.nil, hF.size⟩)
  have HW2 : Hid (W2 = (w.alloc (.cells #[.int .i64 8, .bool two, .int .i64 f.1, .bool f.2.1, .int .i64 f.2.2.1, .slice fo f.2.2.2.length fc, .slice dao dt.length dac] 32)).alloc (.cells #[.int .i64 f.1, .bool f.2.1, .int .i64 f.2.2.1, .slice fo f.2.2.2.length fc] 30)) := hW2
  have HP : Hid (Pr base w s v r u l m ∧ Same0 w0 w ∧ base = w0.heap.size) := ⟨h, hs, hbase⟩
  have HA : Hid (Arg w0 fo f.2.2.2 fc ∧ Arg w0 dao dt dac) := ⟨hF, hD⟩
  have HM : Hid (m ≤ 1048577 ∧ f.2.2.2.length ≤ 1048576 ∧ dt.length ≤ 1048576) := ⟨hm, hfp, hdp⟩
  clear h hs hF hD k2 hm hfp hbase hdp
  go_enter Try.func12, Try.ntmps12
  go_upto_region 2 with fail
  rw [← hW2]
  clear hW2
  have bb : W2.cell? ⟨w.heap.size, 5, none⟩ = some (.slice fo f.2.2.2.length fc) := by
    rw [HW2.out]
    exact cellAt ((Below.heap_alloc _ _ _ (by simp)).trans (heap_alloc_new w (.cells #[.int .i64 8, .bool two, .int .i64 f.1, .bool f.2.1, .int .i64 f.2.2.1, .slice fo f.2.2.2.length fc, .slice dao dt.length dac] 32))) 5
  go_upto_region 3 with (first | (go_at_call 26; refine C0.mono ?_; rintro e w3 ⟨g, c, rfl, r3, hc3, k3⟩; obtain ⟨H, c1, c2⟩ := do_head HW2.out k3 r3 hc3))
  obtain ⟨W3, hW3⟩ : ∃ W3, W3 = w3.setCell ⟨w.heap.size + 1, 3, none⟩ (.slice (some ⟨g, 0, none⟩) f.2.2.2.length c) := ⟨_, rfl⟩
  rw [← hW3] at H ⊢
  have HH : Hid (DoH w W3 8 two f fo fc dao dt.length dac g c) := H
  obtain ⟨o0, o1, o2, o3, o4, o5, o6⟩ := box7 H.ob
  obtain ⟨f0, f1, f2, f3⟩ := box4 H.fb
  clear H c1 c2 k3 r3 hc3 hW3 bb C0 HW2
  have kw3 := HP.out.2.1.trans' HH.out.k
  have C1 := lent14_any (cap := dac) (show Arg W3 dao dt dac from ⟨HA.out.2.at'.same kw3, HA.out.2.cap', HA.out.2.nil, HA.out.2.size⟩)
  have K03 : Hid (Same0 w0 W3) := kw3
  clear kw3
  go_upto_region 43 with (first | (go_at_call 26; refine C1.mono ?_; rintro e w4 ⟨g2, c2, rfl, r4, hc4, k4⟩))
  have LG := r4.lt g2 rfl
  have nOwn : Hid (∀ k, OwnP s v r u k → k < w.heap.size ∧ base ≤ k) := fun k e => ⟨(HP.out.1.notI e).2.2, (HP.out.1.notI e).2.1⟩
  have hz3 := HH.out.k.size
  have h4 : PB (fun k => base ≤ k ∧ k ≠ g2) base w4 s v r u l m := ((HP.out.1.mono (B' := fun k => base ≤ k ∧ k < w.heap.size) (fun k a b => ⟨b, a⟩)).same (HH.out.k.trans' k4)).mono (fun k _ b => ⟨b.1, by have := LG.1; omega⟩)
  have C2 := move_any h4.p (ao := some ⟨g2, 0, none⟩) (ac := c2) (dt := dt) ⟨(Row.intsX r4).first, by omega, (fun e => by cases e), by have := HM.out.2.2; omega⟩ (fun _ a e q => by
    cases e
    have h1 := (nOwn.out g2 (.inr (.inl q))).1
    have := LG.1
    omega)
  have H4 : Hid (PB (fun k => base ≤ k ∧ k ≠ g2) base w4 s v r u l m ∧ Row W3.heap.size w4 (.slice (some ⟨g2, 0, none⟩) (dt.length + 3) c2) (lentF dt) ∧ dt.length + 3 ≤ c2 ∧ Same0 W3 w4 ∧ W3.heap.size ≤ g2) := ⟨h4, r4, hc4, k4, LG.1⟩
  obtain ⟨o0, o1, o2, o3, o4, o5, o6⟩ := box7 (k4.at0 HH.out.ob)
  clear C1 r4 hc4 k4 LG h4 hz3 f0 f1 f2 f3
  go_upto_region 44 with (first | (go_at_call 23; refine C2.mono ?_; rintro e w5 ⟨rfl, p5, k5⟩))
  have k5' := k5.mono (S' := fun k => k = s ∨ v.ownBlock = some k) (fun _ _ e => .inr e)
  have q5 := H4.out.1.left p5 k5'
  have K05 : Same0 w0 w5 := (K03.out.trans' H4.out.2.2.2.1).trans k5 (fun i hi e => by
    have := (nOwn.out i (.inr (.inl e))).2
    have := HP.out.2.2
    omega)
  obtain ⟨a0, a1, a2, a3, a4, a5, a6⟩ := box7 (k5.at (H4.out.2.2.2.1.at0 HH.out.ob) (fun e => by have := (nOwn.out _ (.inr (.inl e))).1; omega))
  have C3 := rmove_any q5 (ao := dao) (ac := dac) (dt := dt) (show Arg w5 dao dt dac from ⟨HA.out.2.at'.same K05, HA.out.2.cap', HA.out.2.nil, HA.out.2.size⟩) (fun h0 a e q => by
    have := HA.out.2.at'.ltF h0 e
    have := (nOwn.out _ (.inr (.inr (.inr q)))).2
    have := HP.out.2.2
    omega)
  have P5 : Hid (SpT 53 (fun k => base ≤ k ∧ k ≠ g2) base w5 s v (mvR l dt) ∧ Kept (fun k => k = s ∨ v.ownBlock = some k) w4 w5) := ⟨p5, k5'⟩
  obtain ⟨E, hE⟩ : ∃ E, E = mvE l dt := ⟨_, rfl⟩
  rw [← hE] at C3 ⊢
  clear C2 p5 k5 k5' q5 K05 o0 o1 o2 o3 o4 o5 o6 hE
  go_upto_region 45 with (first | (go_at_call 35; refine C3.mono ?_; rintro e w6 ⟨rfl, q6, k6⟩))
  obtain ⟨h6, ow, kk⟩ := H4.out.1.both P5.out.1 (fun k e => .inl e) P5.out.2 q6 (fun k e => .inl e) (k6.mono (fun _ _ e => .inr e)) (m1 := m + 1) (by have := H4.out.1.len; rw [mvR_len]; omega) (mvR_pth H4.out.1.pth)
  have nb6 : ∀ j, w.heap.size ≤ j → ¬ OwnP s v r u j := fun j hj e => by have := (nOwn.out j e).1; omega
  have hz3 := HH.out.k.size
  have K06 : Same0 w0 w6 := (K03.out.trans' H4.out.2.2.2.1).trans kk (fun i hi e => by
    have := (nOwn.out i e).2
    have := HP.out.2.2
    omega)
  obtain ⟨a0, a1, a2, a3, a4, a5, a6⟩ := box7 (kk.at (H4.out.2.2.2.1.at0 HH.out.ob) (nb6 _ (Nat.le_refl _)))
  have lr6 := kk.row H4.out.2.1 (fun k e f => nb6 k (by have := (H4.out.2.1.lt k e).1; omega) f)
  have CH := held14_any lr6 H4.out.2.2.1 (show Arg w6 dao dt dac from ⟨HA.out.2.at'.same K06, HA.out.2.cap', HA.out.2.nil, HA.out.2.size⟩) (fun h0 a e q => by
    have := HA.out.2.at'.ltF h0 e
    have := H4.out.2.2.2.2
    have := HP.out.2.1.size
    omega)
  have FIN : Hid (∀ w7, Kept (fun i => i = g2) w6 w7 → DoQ base w s v r u m w7) := fun w7 k7 => by
    refine ⟨v, u, mvR l dt, (h6.kept k7 (fun k e q => ?_) (fun k hb q => absurd q hb.2)).mono (fun k _ hb => hb.1), fun k e => .inl e, (((HH.out.k.trans' H4.out.2.2.2.1).mono (fun _ _ f => f.elim)).trans kk (fun _ _ e => e)).trans k7 (fun i hi e => by have := H4.out.2.2.2.2; omega)⟩
    have h1 := (h6.notI e).1
    obtain ⟨cur, hc⟩ := Row.isI lr6 (k := g2) rfl
    rw [q] at h1
    exact h1 cur hc
  clear C3 h6 ow kk nb6 K06 lr6 q6 k6 P5 H4 nOwn K03 hz3
  go_wp2_with (first | (go_at_call 28; refine CH.mono ?_; rintro e w7 ⟨rfl, k7⟩))
  go_ret
  exact ⟨rfl, FIN.out _ k7⟩
theorem snocF (l : List Fr) : l = [] ∨ ∃ l0 y, l = l0 ++ [y] := if h : l = [] then .inl h else .inr ⟨l.dropLast, l.getLast h, (List.dropLast_concat_getLast h).symm⟩
theorem rownil (w : World) : Row 0 w (.slice none 0 0) [] := World.ownsRow_nil _ _ _ _
theorem put4F_box {w : World} {b : Nat} {x0 x1 x2 x3 v0 v1 v2 v3 : Value} {t : TypeId} (h : w.heap[b]? = some (.cells #[x0, x1, x2, x3] t (0, 0))) : (put4F w b 0 v0 v1 v2 v3).heap[b]? = some (.cells #[v0, v1, v2, v3] t (0, 0)) := by
  unfold put4F
  rw [setAt (setAt (setAt (setAt h _ _) _ _) _ _) _ _]
  rfl
set_option maxHeartbeats 4000000 in
theorem do_top {w0 w : World} {base : Nat} {s : Nat} {v : Value} {r : Nat} {u : Value} {l : List Fr} {m : Nat} (h : Pr base w s v r u l m) (hm : m ≤ 1048577) (hs : Same0 w0 w) (hbase : base = w0.heap.size) (two : Bool) {f : Fr} {fo : Option Addr} {fc : Nat} (hF : Arg w0 fo f.2.2.2 fc) (hfp : f.2.2.2.length ≤ 1048576) {dao : Option Addr} {dt : List Int} {dac : Nat} (hD : Arg w0 dao dt dac) (hdp : dt.length ≤ 1048576) :
    Calls Try.prog 12 #[.pointer (some ⟨s, 0, none⟩), .pointer (some ⟨r, 0, none⟩), opV 3 two f fo fc dao dt.length dac] w fun e w' => e = .returned (.bool true) ∧ DoQ base w s v r u m w' := by
  obtain ⟨W2, hW2⟩ : ∃ W2, W2 = (w.alloc (.cells #[.int .i64 3, .bool two, .int .i64 f.1, .bool f.2.1, .int .i64 f.2.2.1, .slice fo f.2.2.2.length fc, .slice dao dt.length dac] 32)).alloc (.cells #[.int .i64 f.1, .bool f.2.1, .int .i64 f.2.2.1, .slice fo f.2.2.2.length fc] 30) := ⟨_, rfl⟩
  have k2 : Same0 w W2 := by rw [hW2]; exact ((Kept.refl _ w).alloc _).alloc _
  have C0 := lent14_any (cap := fc) (show Arg W2 fo f.2.2.2 fc from ⟨hF.at'.same (hs.trans' k2), hF.cap', hF.nil, hF.size⟩)
  have HW2 : Hid (W2 = (w.alloc (.cells #[.int .i64 3, .bool two, .int .i64 f.1, .bool f.2.1, .int .i64 f.2.2.1, .slice fo f.2.2.2.length fc, .slice dao dt.length dac] 32)).alloc (.cells #[.int .i64 f.1, .bool f.2.1, .int .i64 f.2.2.1, .slice fo f.2.2.2.length fc] 30)) := hW2
  have HP : Hid (Pr base w s v r u l m ∧ Same0 w0 w ∧ base = w0.heap.size) := ⟨h, hs, hbase⟩
  have HA : Hid (Arg w0 fo f.2.2.2 fc ∧ Arg w0 dao dt dac) := ⟨hF, hD⟩
  have HM : Hid (m ≤ 1048577 ∧ f.2.2.2.length ≤ 1048576 ∧ dt.length ≤ 1048576) := ⟨hm, hfp, hdp⟩
  clear h hs hF hD k2 hm hfp hbase hdp
  go_enter Try.func12, Try.ntmps12
  go_upto_region 2 with fail
  rw [← hW2]
  clear hW2
  have bb : W2.cell? ⟨w.heap.size, 5, none⟩ = some (.slice fo f.2.2.2.length fc) := by
    rw [HW2.out]
    exact cellAt ((Below.heap_alloc _ _ _ (by simp)).trans (heap_alloc_new w (.cells #[.int .i64 3, .bool two, .int .i64 f.1, .bool f.2.1, .int .i64 f.2.2.1, .slice fo f.2.2.2.length fc, .slice dao dt.length dac] 32))) 5
  go_upto_region 3 with (first | (go_at_call 26; refine C0.mono ?_; rintro e w3 ⟨g, c, rfl, r3, hc3, k3⟩; obtain ⟨H, c1, c2⟩ := do_head HW2.out k3 r3 hc3))
  obtain ⟨W3, hW3⟩ : ∃ W3, W3 = w3.setCell ⟨w.heap.size + 1, 3, none⟩ (.slice (some ⟨g, 0, none⟩) f.2.2.2.length c) := ⟨_, rfl⟩
  rw [← hW3] at H ⊢
  have HH : Hid (DoH w W3 3 two f fo fc dao dt.length dac g c) := H
  obtain ⟨o0, o1, o2, o3, o4, o5, o6⟩ := box7 H.ob
  obtain ⟨f0, f1, f2, f3⟩ := box4 H.fb
  clear H c1 c2 k3 r3 hc3 hW3 bb C0 HW2
  rcases snocF l with e | ⟨l0, y, e⟩
  · subst e
    have h3 := HP.out.1.same HH.out.k
    have C1 := top_no h3.p
    have H3 : Hid (Pr base W3 s v r u [] m) := h3
    clear h3
    go_upto_region 13 with (first | (go_at_call 15; refine C1.mono ?_; rintro e w4 ⟨rfl, k4⟩))
    have h3 := H3.out
    obtain ⟨W4, hW4⟩ : ∃ W4, W4 = w4.alloc (.cells #[.int .i64 0, .bool false, .int .i64 0, .slice none 0 0] 30) := ⟨_, rfl⟩
    have k44 : Same0 w4 W4 := by rw [hW4]; exact (Kept.refl _ _).alloc _
    have b4 : W4.heap[w4.heap.size]? = some (.cells #[.int .i64 0, .bool false, .int .i64 0, .slice none 0 0] 30 (0, 0)) := by rw [hW4]; exact heap_alloc_new w4 _
    have C2 := rtop_no (h3.q.same (k4.trans' k44))
    have H4 : Hid (Same0 W3 w4 ∧ Same0 w4 W4 ∧ W4.heap[w4.heap.size]? = some (.cells #[.int .i64 0, .bool false, .int .i64 0, .slice none 0 0] 30 (0, 0)) ∧ w4.heap.size < W4.heap.size) := ⟨k4, k44, b4, by rw [hW4]; simp⟩
    rw [← hW4]
    clear hW4 k44 b4 k4 C1 h3
    go_upto_region 14 with (first | (go_at_call 29; refine C2.mono ?_; rintro e w5 ⟨rfl, k5⟩))
    obtain ⟨W5, hW5⟩ : ∃ W5, W5 = w5.alloc (.cells #[.int .i64 0, .bool false, .int .i64 0, .slice none 0 0] 30) := ⟨_, rfl⟩
    have k55 : Same0 w5 W5 := by rw [hW5]; exact (Kept.refl _ _).alloc _
    have b5 : W5.heap[w5.heap.size]? = some (.cells #[.int .i64 0, .bool false, .int .i64 0, .slice none 0 0] 30 (0, 0)) := by rw [hW5]; exact heap_alloc_new w5 _
    have k35 : Same0 W3 W5 := H4.out.1.trans' (H4.out.2.1.trans' (k5.trans' k55))
    obtain ⟨o0, o1, o2, o3, o4, o5, o6⟩ := box7 (k35.at0 HH.out.ob)
    have a5 : W5.heap[w4.heap.size]? = some (.cells #[.int .i64 0, .bool false, .int .i64 0, .slice none 0 0] 30 (0, 0)) := (k5.trans' k55).at0 H4.out.2.2.1
    obtain ⟨f0, f1, f2, f3⟩ := box4 a5
    obtain ⟨d0, d1, d2, d3⟩ := box4 b5
    have CS := sameFrame_any (x := (0, false, 0, [])) (y := (0, false, 0, [])) (arg_none W5) (arg_none W5)
    rw [eqF_self] at CS
    have HSP : Hid (∀ w6, Same0 W5 w6 → w6.cell? ⟨w4.heap.size, 3, none⟩ = some (.slice none 0 0)) := fun w6 hk => cellAt (hk.at0 a5) 3
    have FIN : Hid (∀ w6 w7, Same0 W5 w6 → Kept (fun i => (Value.slice none 0 0).ownBlock = some i) w6 w7 → DoQ base w s v r u m w7) := fun w6 w7 k6 k7 => DoQ.still HP.out.1 (HH.out.k.trans' ((k35.trans' k6).trans k7 (fun i hi e => by cases e)))
    rw [← hW5]
    clear hW5 k55 b5 k35 a5 k5 H3 H4 C2
    go_upto_region 18 with (first | (go_at_call 17; refine CS.mono ?_; rintro e w6 ⟨rfl, k6⟩))
    have q3 := HSP.out w6 k6
    have CP := spoil14_any (rownil w6) rfl (by simp) (Nat.zero_le _)
    have K6 : Hid (Same0 W5 w6) := k6
    clear HSP CS k6
    go_wp2_with (first | (go_at_call 31; refine CP.mono ?_; rintro e w7 ⟨⟨uu, rfl⟩, k7⟩))
    go_ret
    exact ⟨rfl, FIN.out _ _ K6.out k7⟩
  · subst e
    have h3 := HP.out.1.same HH.out.k
    have C1 := top_yes h3.p
    have H3 : Hid (Pr base W3 s v r u (l0 ++ [y]) m) := h3
    clear h3
    go_upto_region 13 with (first | (go_at_call 15; refine C1.mono ?_; rintro e w4 ⟨bo, bc, rfl, r4, k4⟩))
    have h3 := H3.out
    obtain ⟨W4, hW4⟩ : ∃ W4, W4 = w4.alloc (.cells #[.int .i64 y.1, .bool y.2.1, .int .i64 y.2.2.1, .slice bo y.2.2.2.length bc] 30) := ⟨_, rfl⟩
    have k44 : Same0 w4 W4 := by rw [hW4]; exact (Kept.refl _ _).alloc _
    have b4 : W4.heap[w4.heap.size]? = some (.cells #[.int .i64 y.1, .bool y.2.1, .int .i64 y.2.2.1, .slice bo y.2.2.2.length bc] 30 (0, 0)) := by rw [hW4]; exact heap_alloc_new w4 _
    have C2 := rtop_yes (h3.q.same (k4.trans' k44))
    have H4 : Hid (Row W3.heap.size w4 (.slice bo y.2.2.2.length bc) y.2.2.2 ∧ Same0 W3 w4 ∧ Same0 w4 W4 ∧ W4.heap[w4.heap.size]? = some (.cells #[.int .i64 y.1, .bool y.2.1, .int .i64 y.2.2.1, .slice bo y.2.2.2.length bc] 30 (0, 0)) ∧ w4.heap.size < W4.heap.size) := ⟨r4, k4, k44, b4, by rw [hW4]; simp⟩
    rw [← hW4]
    clear hW4 k44 b4 k4 r4 C1 h3
    go_upto_region 14 with (first | (go_at_call 29; refine C2.mono ?_; rintro e w5 ⟨co, cc, rfl, r5, k5⟩))
    obtain ⟨W5, hW5⟩ : ∃ W5, W5 = w5.alloc (.cells #[.int .i64 y.1, .bool y.2.1, .int .i64 y.2.2.1, .slice co y.2.2.2.length cc] 30) := ⟨_, rfl⟩
    have k55 : Same0 w5 W5 := by rw [hW5]; exact (Kept.refl _ _).alloc _
    have b5 : W5.heap[w5.heap.size]? = some (.cells #[.int .i64 y.1, .bool y.2.1, .int .i64 y.2.2.1, .slice co y.2.2.2.length cc] 30 (0, 0)) := by rw [hW5]; exact heap_alloc_new w5 _
    have k35 : Same0 W3 W5 := H4.out.2.1.trans' (H4.out.2.2.1.trans' (k5.trans' k55))
    obtain ⟨o0, o1, o2, o3, o4, o5, o6⟩ := box7 (k35.at0 HH.out.ob)
    have a5 : W5.heap[w4.heap.size]? = some (.cells #[.int .i64 y.1, .bool y.2.1, .int .i64 y.2.2.1, .slice bo y.2.2.2.length bc] 30 (0, 0)) := (k5.trans' k55).at0 H4.out.2.2.2.1
    obtain ⟨f0, f1, f2, f3⟩ := box4 a5
    obtain ⟨d0, d1, d2, d3⟩ := box4 b5
    have hy := HP.out.1.pth y (by simp)
    have r45 := (H4.out.2.2.1.trans' (k5.trans' k55)).row H4.out.1 (fun _ _ f => f)
    have CS := sameFrame_any (x := y) (y := y) (Row.argX r45 (by omega)) (Row.argX (k55.row r5 (fun _ _ f => f)) (by omega))
    rw [eqF_self] at CS
    have HSP : Hid (∀ w6, Same0 W5 w6 → Row W3.heap.size w6 (.slice bo y.2.2.2.length bc) y.2.2.2 ∧ W3.heap.size ≤ w6.heap.size ∧ w6.cell? ⟨w4.heap.size, 3, none⟩ = some (.slice bo y.2.2.2.length bc)) := fun w6 hk => ⟨hk.row r45 (fun _ _ f => f), (k35.trans' hk).size, cellAt (hk.at0 a5) 3⟩
    have HY : Hid (y.2.2.2.length * 8 ≤ 140737488351232) := by show _ ≤ _; omega
    have FIN : Hid (∀ w6 w7, Same0 W5 w6 → Kept (fun i => (Value.slice bo y.2.2.2.length bc).ownBlock = some i) w6 w7 → DoQ base w s v r u m w7) := fun w6 w7 k6 k7 => DoQ.still HP.out.1 (HH.out.k.trans' ((k35.trans' k6).trans k7 (fun i hi e => by have := (r45.lt i e).1; omega)))
    rw [← hW5]
    clear hW5 k55 b5 k35 a5 k5 r5 r45 hy H3 H4 C2
    go_upto_region 18 with (first | (go_at_call 17; refine CS.mono ?_; rintro e w6 ⟨rfl, k6⟩))
    obtain ⟨q1, q2, q3⟩ := HSP.out w6 k6
    have CP := spoil14_any q1 rfl HY.out q2
    have K6 : Hid (Same0 W5 w6) := k6
    clear q1 q2 HSP CS k6
    go_wp2_with (first | (go_at_call 31; refine CP.mono ?_; rintro e w7 ⟨⟨uu, rfl⟩, k7⟩))
    go_ret
    exact ⟨rfl, FIN.out _ _ K6.out k7⟩
set_option maxHeartbeats 4000000 in
theorem do_pop {w0 w : World} {base : Nat} {s : Nat} {v : Value} {r : Nat} {u : Value} {l : List Fr} {m : Nat} (h : Pr base w s v r u l m) (hm : m ≤ 1048577) (hs : Same0 w0 w) (hbase : base = w0.heap.size) (two : Bool) {f : Fr} {fo : Option Addr} {fc : Nat} (hF : Arg w0 fo f.2.2.2 fc) (hfp : f.2.2.2.length ≤ 1048576) {dao : Option Addr} {dt : List Int} {dac : Nat} (hD : Arg w0 dao dt dac) (hdp : dt.length ≤ 1048576) :
    Calls Try.prog 12 #[.pointer (some ⟨s, 0, none⟩), .pointer (some ⟨r, 0, none⟩), opV 2 two f fo fc dao dt.length dac] w fun e w' => e = .returned (.bool true) ∧ DoQ base w s v r u m w' := by
  obtain ⟨W2, hW2⟩ : ∃ W2, W2 = (w.alloc (.cells #[.int .i64 2, .bool two, .int .i64 f.1, .bool f.2.1, .int .i64 f.2.2.1, .slice fo f.2.2.2.length fc, .slice dao dt.length dac] 32)).alloc (.cells #[.int .i64 f.1, .bool f.2.1, .int .i64 f.2.2.1, .slice fo f.2.2.2.length fc] 30) := ⟨_, rfl⟩
  have k2 : Same0 w W2 := by rw [hW2]; exact ((Kept.refl _ w).alloc _).alloc _
  have C0 := lent14_any (cap := fc) (show Arg W2 fo f.2.2.2 fc from ⟨hF.at'.same (hs.trans' k2), hF.cap', hF.nil, hF.size⟩)
  have HW2 : Hid (W2 = (w.alloc (.cells #[.int .i64 2, .bool two, .int .i64 f.1, .bool f.2.1, .int .i64 f.2.2.1, .slice fo f.2.2.2.length fc, .slice dao dt.length dac] 32)).alloc (.cells #[.int .i64 f.1, .bool f.2.1, .int .i64 f.2.2.1, .slice fo f.2.2.2.length fc] 30)) := hW2
  have HP : Hid (Pr base w s v r u l m ∧ Same0 w0 w ∧ base = w0.heap.size) := ⟨h, hs, hbase⟩
  have HA : Hid (Arg w0 fo f.2.2.2 fc ∧ Arg w0 dao dt dac) := ⟨hF, hD⟩
  have HM : Hid (m ≤ 1048577 ∧ f.2.2.2.length ≤ 1048576 ∧ dt.length ≤ 1048576) := ⟨hm, hfp, hdp⟩
  clear h hs hF hD k2 hm hfp hbase hdp
  go_enter Try.func12, Try.ntmps12
  go_upto_region 2 with fail
  rw [← hW2]
  clear hW2
  have bb : W2.cell? ⟨w.heap.size, 5, none⟩ = some (.slice fo f.2.2.2.length fc) := by
    rw [HW2.out]
    exact cellAt ((Below.heap_alloc _ _ _ (by simp)).trans (heap_alloc_new w (.cells #[.int .i64 2, .bool two, .int .i64 f.1, .bool f.2.1, .int .i64 f.2.2.1, .slice fo f.2.2.2.length fc, .slice dao dt.length dac] 32))) 5
  go_upto_region 3 with (first | (go_at_call 26; refine C0.mono ?_; rintro e w3 ⟨g, c, rfl, r3, hc3, k3⟩; obtain ⟨H, c1, c2⟩ := do_head HW2.out k3 r3 hc3))
  obtain ⟨W3, hW3⟩ : ∃ W3, W3 = w3.setCell ⟨w.heap.size + 1, 3, none⟩ (.slice (some ⟨g, 0, none⟩) f.2.2.2.length c) := ⟨_, rfl⟩
  rw [← hW3] at H ⊢
  have HH : Hid (DoH w W3 2 two f fo fc dao dt.length dac g c) := H
  obtain ⟨o0, o1, o2, o3, o4, o5, o6⟩ := box7 H.ob
  obtain ⟨f0, f1, f2, f3⟩ := box4 H.fb
  clear H c1 c2 k3 r3 hc3 hW3 bb C0 HW2
  rcases snocF l with e | ⟨l0, y, e⟩
  · subst e
    have h3 := HP.out.1.same HH.out.k
    have C1 := top_no h3.p
    have H3 : Hid (Pr base W3 s v r u [] m) := h3
    clear h3
    go_upto_region 13 with (first | (go_at_call 15; refine C1.mono ?_; rintro e w4 ⟨rfl, k4⟩))
    have h3 := H3.out
    obtain ⟨W4, hW4⟩ : ∃ W4, W4 = w4.alloc (.cells #[.int .i64 0, .bool false, .int .i64 0, .slice none 0 0] 30) := ⟨_, rfl⟩
    have k44 : Same0 w4 W4 := by rw [hW4]; exact (Kept.refl _ _).alloc _
    have b4 : W4.heap[w4.heap.size]? = some (.cells #[.int .i64 0, .bool false, .int .i64 0, .slice none 0 0] 30 (0, 0)) := by rw [hW4]; exact heap_alloc_new w4 _
    have C2 := rtop_no (h3.q.same (k4.trans' k44))
    have H4 : Hid (Same0 W3 w4 ∧ Same0 w4 W4 ∧ W4.heap[w4.heap.size]? = some (.cells #[.int .i64 0, .bool false, .int .i64 0, .slice none 0 0] 30 (0, 0)) ∧ w4.heap.size < W4.heap.size) := ⟨k4, k44, b4, by rw [hW4]; simp⟩
    rw [← hW4]
    clear hW4 k44 b4 k4 C1 h3
    go_upto_region 14 with (first | (go_at_call 29; refine C2.mono ?_; rintro e w5 ⟨rfl, k5⟩))
    obtain ⟨W5, hW5⟩ : ∃ W5, W5 = w5.alloc (.cells #[.int .i64 0, .bool false, .int .i64 0, .slice none 0 0] 30) := ⟨_, rfl⟩
    have k55 : Same0 w5 W5 := by rw [hW5]; exact (Kept.refl _ _).alloc _
    have b5 : W5.heap[w5.heap.size]? = some (.cells #[.int .i64 0, .bool false, .int .i64 0, .slice none 0 0] 30 (0, 0)) := by rw [hW5]; exact heap_alloc_new w5 _
    have k35 : Same0 W3 W5 := H4.out.1.trans' (H4.out.2.1.trans' (k5.trans' k55))
    obtain ⟨o0, o1, o2, o3, o4, o5, o6⟩ := box7 (k35.at0 HH.out.ob)
    have a5 : W5.heap[w4.heap.size]? = some (.cells #[.int .i64 0, .bool false, .int .i64 0, .slice none 0 0] 30 (0, 0)) := (k5.trans' k55).at0 H4.out.2.2.1
    have h5 := (HP.out.1.same HH.out.k).same k35
    have C6 := pop_no h5.p
    have hz3 := HH.out.k.size
    have hz4 := H4.out.1.size
    have hz5 := k5.size
    have H5 : Hid (Pr base W5 s v r u [] m ∧ Same0 W3 W5 ∧ W5.heap[w4.heap.size]? = some (.cells #[.int .i64 0, .bool false, .int .i64 0, .slice none 0 0] 30 (0, 0)) ∧ W5.heap[w5.heap.size]? = some (.cells #[.int .i64 0, .bool false, .int .i64 0, .slice none 0 0] 30 (0, 0)) ∧ w.heap.size ≤ w4.heap.size ∧ w4.heap.size < w5.heap.size) := ⟨h5, k35, a5, b5, by omega, by have := H4.out.2.2.2; omega⟩
    rw [← hW5]
    clear hW5 k55 b5 k35 a5 k5 H3 H4 C2 h5 hz3 hz4 hz5
    go_upto_region 15 with fail
    go_upto_region 16 with (first | (go_at_call 16; refine C6.mono ?_; rintro e w6 ⟨rfl, k6⟩; obtain ⟨x0, x1, x2, x3⟩ := box4 (k6.at0 H5.out.2.2.1); obtain ⟨y0, y1, y2, y3⟩ := free4 (k6.at0 H5.out.2.2.1)))
    obtain ⟨W6, hW6⟩ : ∃ W6, W6 = put4F w6 w4.heap.size 0 (.int .i64 0) (.bool false) (.int .i64 0) (.slice none 0 0) := ⟨_, rfl⟩
    have kp : Kept (fun k => k = w4.heap.size) w6 W6 := by rw [hW6]; exact put4F_kept _ _ _ _ _ _ _
    have a6 : W6.heap[w4.heap.size]? = some (.cells #[.int .i64 0, .bool false, .int .i64 0, .slice none 0 0] 30 (0, 0)) := by rw [hW6]; exact put4F_box (k6.at0 H5.out.2.2.1)
    have b6 : W6.heap[w5.heap.size]? = some (.cells #[.int .i64 0, .bool false, .int .i64 0, .slice none 0 0] 30 (0, 0)) := kp.at (k6.at0 H5.out.2.2.2.1) (by have := H5.out.2.2.2.2; omega)
    have kw6 : Same0 w W6 := ((HH.out.k.trans' H5.out.2.1).trans' k6).trans kp (fun i hi e => by have := H5.out.2.2.2.2; omega)
    have C7 := rpop_no (HP.out.1.q.same kw6)
    have H6 : Hid (Same0 w W6 ∧ W6.heap[w4.heap.size]? = some (.cells #[.int .i64 0, .bool false, .int .i64 0, .slice none 0 0] 30 (0, 0)) ∧ W6.heap[w5.heap.size]? = some (.cells #[.int .i64 0, .bool false, .int .i64 0, .slice none 0 0] 30 (0, 0))) := ⟨kw6, a6, b6⟩
    have hW6' : W6 = ((((w6.setCell ⟨w4.heap.size, 0, none⟩ (.int .i64 0)).setCell ⟨w4.heap.size, 1, none⟩ (.bool false)).setCell ⟨w4.heap.size, 2, none⟩ (.int .i64 0)).setCell ⟨w4.heap.size, 3, none⟩ (.slice none 0 0)) := hW6
    rw [← hW6']
    clear hW6 hW6' a6 b6 kp kw6 k6 C6 x0 x1 x2 x3 y0 y1 y2 y3 o0 o1 o2 o3 o4 o5 o6
    go_upto_region 17 with (first | (go_at_call 30; refine C7.mono ?_; rintro e w7 ⟨rfl, k7⟩; obtain ⟨x0, x1, x2, x3⟩ := box4 (k7.at0 H6.out.2.2); obtain ⟨y0, y1, y2, y3⟩ := free4 (k7.at0 H6.out.2.2)))
    obtain ⟨W7, hW7⟩ : ∃ W7, W7 = put4F w7 w5.heap.size 0 (.int .i64 0) (.bool false) (.int .i64 0) (.slice none 0 0) := ⟨_, rfl⟩
    have kp : Kept (fun k => k = w5.heap.size) w7 W7 := by rw [hW7]; exact put4F_kept _ _ _ _ _ _ _
    have b7 : W7.heap[w5.heap.size]? = some (.cells #[.int .i64 0, .bool false, .int .i64 0, .slice none 0 0] 30 (0, 0)) := by rw [hW7]; exact put4F_box (k7.at0 H6.out.2.2)
    have a7 : W7.heap[w4.heap.size]? = some (.cells #[.int .i64 0, .bool false, .int .i64 0, .slice none 0 0] 30 (0, 0)) := kp.at (k7.at0 H6.out.2.1) (by have := H5.out.2.2.2.2; omega)
    have kw7 : Same0 w W7 := (H6.out.1.trans' k7).trans kp (fun i hi e => by have := H5.out.2.2.2.2; omega)
    have CS := sameFrame_any (x := (0, false, 0, [])) (y := (0, false, 0, [])) (arg_none W7) (arg_none W7)
    rw [eqF_self] at CS
    obtain ⟨f0, f1, f2, f3⟩ := box4 a7
    obtain ⟨d0, d1, d2, d3⟩ := box4 b7
    have H7 : Hid (Same0 w W7 ∧ W7.heap[w4.heap.size]? = some (.cells #[.int .i64 0, .bool false, .int .i64 0, .slice none 0 0] 30 (0, 0))) := ⟨kw7, a7⟩
    have hW7' : W7 = ((((w7.setCell ⟨w5.heap.size, 0, none⟩ (.int .i64 0)).setCell ⟨w5.heap.size, 1, none⟩ (.bool false)).setCell ⟨w5.heap.size, 2, none⟩ (.int .i64 0)).setCell ⟨w5.heap.size, 3, none⟩ (.slice none 0 0)) := hW7
    rw [← hW7']
    clear hW7 hW7' kp b7 a7 kw7 k7 C7 x0 x1 x2 x3 y0 y1 y2 y3 H6 H5
    go_upto_region 18 with (first | (go_at_call 17; refine CS.mono ?_; rintro e w8 ⟨rfl, k8⟩))
    have q3 := cellAt (k8.at0 H7.out.2) 3
    have CP := spoil14_any (rownil w8) rfl (by simp) (Nat.zero_le _)
    have FIN : Hid (∀ w9, Kept (fun i => (Value.slice none 0 0).ownBlock = some i) w8 w9 → DoQ base w s v r u m w9) := fun w9 k9 => DoQ.still HP.out.1 ((H7.out.1.trans' k8).trans k9 (fun i hi e => by cases e))
    clear CS k8 H7
    go_wp2_with (first | (go_at_call 31; refine CP.mono ?_; rintro e w9 ⟨⟨uu, rfl⟩, k9⟩))
    go_ret
    exact ⟨rfl, FIN.out _ k9⟩
  · subst e
    have h3 := HP.out.1.same HH.out.k
    have C1 := top_yes h3.p
    have H3 : Hid (Pr base W3 s v r u (l0 ++ [y]) m) := h3
    clear h3
    go_upto_region 13 with (first | (go_at_call 15; refine C1.mono ?_; rintro e w4 ⟨bo, bc, rfl, r4, k4⟩))
    have h3 := H3.out
    obtain ⟨W4, hW4⟩ : ∃ W4, W4 = w4.alloc (.cells #[.int .i64 y.1, .bool y.2.1, .int .i64 y.2.2.1, .slice bo y.2.2.2.length bc] 30) := ⟨_, rfl⟩
    have k44 : Same0 w4 W4 := by rw [hW4]; exact (Kept.refl _ _).alloc _
    have b4 : W4.heap[w4.heap.size]? = some (.cells #[.int .i64 y.1, .bool y.2.1, .int .i64 y.2.2.1, .slice bo y.2.2.2.length bc] 30 (0, 0)) := by rw [hW4]; exact heap_alloc_new w4 _
    have C2 := rtop_yes (h3.q.same (k4.trans' k44))
    have H4 : Hid (Row W3.heap.size w4 (.slice bo y.2.2.2.length bc) y.2.2.2 ∧ Same0 W3 w4 ∧ Same0 w4 W4 ∧ W4.heap[w4.heap.size]? = some (.cells #[.int .i64 y.1, .bool y.2.1, .int .i64 y.2.2.1, .slice bo y.2.2.2.length bc] 30 (0, 0)) ∧ w4.heap.size < W4.heap.size) := ⟨r4, k4, k44, b4, by rw [hW4]; simp⟩
    rw [← hW4]
    clear hW4 k44 b4 k4 r4 C1 h3
    go_upto_region 14 with (first | (go_at_call 29; refine C2.mono ?_; rintro e w5 ⟨co, cc, rfl, r5, k5⟩))
    obtain ⟨W5, hW5⟩ : ∃ W5, W5 = w5.alloc (.cells #[.int .i64 y.1, .bool y.2.1, .int .i64 y.2.2.1, .slice co y.2.2.2.length cc] 30) := ⟨_, rfl⟩
    have k55 : Same0 w5 W5 := by rw [hW5]; exact (Kept.refl _ _).alloc _
    have b5 : W5.heap[w5.heap.size]? = some (.cells #[.int .i64 y.1, .bool y.2.1, .int .i64 y.2.2.1, .slice co y.2.2.2.length cc] 30 (0, 0)) := by rw [hW5]; exact heap_alloc_new w5 _
    have k35 : Same0 W3 W5 := H4.out.2.1.trans' (H4.out.2.2.1.trans' (k5.trans' k55))
    obtain ⟨o0, o1, o2, o3, o4, o5, o6⟩ := box7 (k35.at0 HH.out.ob)
    have a5 : W5.heap[w4.heap.size]? = some (.cells #[.int .i64 y.1, .bool y.2.1, .int .i64 y.2.2.1, .slice bo y.2.2.2.length bc] 30 (0, 0)) := (k5.trans' k55).at0 H4.out.2.2.2.1
    have h5 : PB (fun k => base ≤ k ∧ k < w.heap.size) base W5 s v r u (l0 ++ [y]) m := ((HP.out.1.mono (B' := fun k => base ≤ k ∧ k < w.heap.size) (fun k a b => ⟨b, a⟩)).same HH.out.k).same k35
    have C6 := pop_yes h5.p
    have nOwn : Hid (∀ k, OwnP s v r u k → k < w.heap.size) := fun k e => (HP.out.1.notI e).2.2
    have hz3 := HH.out.k.size
    have hz4 := H4.out.2.1.size
    have hz5 := k5.size
    have H5 : Hid (PB (fun k => base ≤ k ∧ k < w.heap.size) base W5 s v r u (l0 ++ [y]) m ∧ Same0 W3 W5 ∧ W5.heap[w4.heap.size]? = some (.cells #[.int .i64 y.1, .bool y.2.1, .int .i64 y.2.2.1, .slice bo y.2.2.2.length bc] 30 (0, 0)) ∧ W5.heap[w5.heap.size]? = some (.cells #[.int .i64 y.1, .bool y.2.1, .int .i64 y.2.2.1, .slice co y.2.2.2.length cc] 30 (0, 0)) ∧ w.heap.size ≤ w4.heap.size ∧ w4.heap.size < w5.heap.size) := ⟨h5, k35, a5, b5, by omega, by have := H4.out.2.2.2.2; omega⟩
    have HY : Hid (y.2.2.2.length * 8 ≤ 140737488351232) := by show _ ≤ _; have := HP.out.1.pth y (by simp); omega
    rw [← hW5]
    clear hW5 k55 b5 k35 a5 k5 r5 H3 H4 C2 h5 hz3 hz4 hz5
    go_upto_region 15 with fail
    go_upto_region 16 with (first | (go_at_call 16; refine C6.mono ?_; rintro e w6 ⟨bo6, bc6, rfl, r6, v6, p6, ow6, k6⟩; have na : ¬ (w4.heap.size = s ∨ v.ownBlock = some w4.heap.size) := (fun e => by have := nOwn.out _ (e.elim .inl (fun e => .inr (.inl e))); have := H5.out.2.2.2.2.1; omega); obtain ⟨x0, x1, x2, x3⟩ := box4 (k6.at H5.out.2.2.1 na); obtain ⟨y0, y1, y2, y3⟩ := free4 (k6.at H5.out.2.2.1 na)))
    obtain ⟨W6, hW6⟩ : ∃ W6, W6 = put4F w6 w4.heap.size 0 (.int .i64 y.1) (.bool y.2.1) (.int .i64 y.2.2.1) (.slice bo6 y.2.2.2.length bc6) := ⟨_, rfl⟩
    have a6 : W6.heap[w4.heap.size]? = some (.cells #[.int .i64 y.1, .bool y.2.1, .int .i64 y.2.2.1, .slice bo6 y.2.2.2.length bc6] 30 (0, 0)) := by rw [hW6]; exact put4F_box (k6.at H5.out.2.2.1 na)
    have kp : Kept (fun k => k = w4.heap.size) w6 W6 := by rw [hW6]; exact put4F_kept _ _ _ _ _ _ _
    have nb : ¬ (w5.heap.size = s ∨ v.ownBlock = some w5.heap.size) := fun e => by
      have := nOwn.out _ (e.elim .inl (fun e => .inr (.inl e)))
      have := H5.out.2.2.2.2
      omega
    have b6 : W6.heap[w5.heap.size]? = some (.cells #[.int .i64 y.1, .bool y.2.1, .int .i64 y.2.2.1, .slice co y.2.2.2.length cc] 30 (0, 0)) := kp.at (k6.at H5.out.2.2.2.1 nb) (by have := H5.out.2.2.2.2; omega)
    have nI : NotI w6 w4.heap.size := fun cur hc => by
      rw [k6.at H5.out.2.2.1 na] at hc
      cases hc
    have p6' : SpT 53 (fun k => base ≤ k ∧ k < w.heap.size) base W6 s v6 l0 := p6.kept kp (fun e => na (.inl e.symm)) (fun k e q => na (.inr (by rw [← q]; exact ow6 k e))) (fun k _ q => by rw [q]; exact nI)
    have k6' : Kept (fun k => k = s ∨ v.ownBlock = some k) w W6 := (((HH.out.k.trans' H5.out.2.1).mono (fun _ _ f => f.elim)).trans k6 (fun _ _ e => e)).trans kp (fun i hi e => by have := H5.out.2.2.2.2.1; omega)
    have hw : PB (fun k => base ≤ k ∧ k < w.heap.size) base w s v r u (l0 ++ [y]) m := HP.out.1.mono (fun k a b => ⟨b, a⟩)
    have q6 := hw.left p6' k6'
    have r6' : Row W5.heap.size W6 (.slice bo6 y.2.2.2.length bc6) y.2.2.2 := kp.row r6 (fun k e q => by
      have := (r6.lt k e).1
      have h1 := lt_of_at H5.out.2.2.1
      omega)
    have C7 := rpop_yes q6
    have H6 : Hid (PB (fun k => base ≤ k ∧ k < w.heap.size) base w s v r u (l0 ++ [y]) m ∧ SpT 53 (fun k => base ≤ k ∧ k < w.heap.size) base W6 s v6 l0 ∧ Kept (fun k => k = s ∨ v.ownBlock = some k) w W6 ∧ Row W5.heap.size W6 (.slice bo6 y.2.2.2.length bc6) y.2.2.2 ∧ W6.heap[w4.heap.size]? = some (.cells #[.int .i64 y.1, .bool y.2.1, .int .i64 y.2.2.1, .slice bo6 y.2.2.2.length bc6] 30 (0, 0)) ∧ W6.heap[w5.heap.size]? = some (.cells #[.int .i64 y.1, .bool y.2.1, .int .i64 y.2.2.1, .slice co y.2.2.2.length cc] 30 (0, 0)) ∧ (∀ k, v6.ownBlock = some k → v.ownBlock = some k)) := ⟨hw, p6', k6', r6', a6, b6, ow6⟩
    have hW6' : W6 = ((((w6.setCell ⟨w4.heap.size, 0, none⟩ (.int .i64 y.1)).setCell ⟨w4.heap.size, 1, none⟩ (.bool y.2.1)).setCell ⟨w4.heap.size, 2, none⟩ (.int .i64 y.2.2.1)).setCell ⟨w4.heap.size, 3, none⟩ (.slice bo6 y.2.2.2.length bc6)) := hW6
    rw [← hW6']
    have HS6 : Hid (W5.heap.size ≤ W6.heap.size) := Nat.le_trans k6.size kp.size
    clear hW6 hW6' a6 b6 kp nI p6' k6' hw q6 r6' p6 ow6 k6 r6 C6 na nb x0 x1 x2 x3 y0 y1 y2 y3 o0 o1 o2 o3 o4 o5 o6
    go_upto_region 17 with (first | (go_at_call 30; refine C7.mono ?_; rintro e w7 ⟨bo7, bc7, rfl, r7, u7, q7, ow7, k7⟩; have nb : ¬ (w5.heap.size = r ∨ u.ownBlock = some w5.heap.size) := (fun e => by have := nOwn.out _ (e.elim (fun e => .inr (.inr (.inl e))) (fun e => .inr (.inr (.inr e)))); have := H5.out.2.2.2.2; omega); obtain ⟨x0, x1, x2, x3⟩ := box4 (k7.at H6.out.2.2.2.2.2.1 nb); obtain ⟨y0, y1, y2, y3⟩ := free4 (k7.at H6.out.2.2.2.2.2.1 nb)))
    obtain ⟨W7, hW7⟩ : ∃ W7, W7 = put4F w7 w5.heap.size 0 (.int .i64 y.1) (.bool y.2.1) (.int .i64 y.2.2.1) (.slice bo7 y.2.2.2.length bc7) := ⟨_, rfl⟩
    have kp : Kept (fun k => k = w5.heap.size) w7 W7 := by rw [hW7]; exact put4F_kept _ _ _ _ _ _ _
    have b7 : W7.heap[w5.heap.size]? = some (.cells #[.int .i64 y.1, .bool y.2.1, .int .i64 y.2.2.1, .slice bo7 y.2.2.2.length bc7] 30 (0, 0)) := by rw [hW7]; exact put4F_box (k7.at H6.out.2.2.2.2.2.1 nb)
    have na : ¬ (w4.heap.size = r ∨ u.ownBlock = some w4.heap.size) := fun e => by
      have := nOwn.out _ (e.elim (fun e => .inr (.inr (.inl e))) (fun e => .inr (.inr (.inr e))))
      have := H5.out.2.2.2.2
      omega
    have a7 : W7.heap[w4.heap.size]? = some (.cells #[.int .i64 y.1, .bool y.2.1, .int .i64 y.2.2.1, .slice bo6 y.2.2.2.length bc6] 30 (0, 0)) := kp.at (k7.at H6.out.2.2.2.2.1 na) (by have := H5.out.2.2.2.2; omega)
    obtain ⟨h7, ow, kk⟩ := H6.out.1.both H6.out.2.1 (fun k e => .inl (H6.out.2.2.2.2.2.2 k e)) H6.out.2.2.1 q7 (fun k e => .inl (ow7 k e)) k7 (m1 := m + 1) (by have := HP.out.1.len; simp at this; omega) (fun x hx => HP.out.1.pth x (by simp [hx]))
    have nI : NotI w7 w5.heap.size := fun cur hc => by
      rw [k7.at H6.out.2.2.2.2.2.1 nb] at hc
      cases hc
    have ow' : ∀ k, OwnP s v6 r u7 k → k < w.heap.size := fun k e => by
      rcases e with e | e | e | e
      · exact nOwn.out k (.inl e)
      · exact nOwn.out k (.inr (.inl (H6.out.2.2.2.2.2.2 k e)))
      · exact nOwn.out k (.inr (.inr (.inl e)))
      · exact nOwn.out k (.inr (.inr (.inr (ow7 k e))))
    have h7' : PB (fun k => base ≤ k ∧ k < w.heap.size) base W7 s v6 r u7 l0 (m + 1) := h7.kept kp (fun k e q => by have := ow' k e; have := H5.out.2.2.2.2; omega) (fun k _ q => by rw [q]; exact nI)
    have rk : Row W5.heap.size W7 (.slice bo6 y.2.2.2.length bc6) y.2.2.2 := kp.row (k7.row H6.out.2.2.2.1 (fun k e q => by
      have := (H6.out.2.2.2.1.lt k e).1
      have h1 := nOwn.out k (q.elim (fun e => .inr (.inr (.inl e))) (fun e => .inr (.inr (.inr e))))
      have := (HH.out.k.trans' H5.out.2.1).size
      omega)) (fun k e q => by
      have := (H6.out.2.2.2.1.lt k e).1
      have h1 := lt_of_at H5.out.2.2.2.1
      omega)
    have rk7 : Row W6.heap.size W7 (.slice bo7 y.2.2.2.length bc7) y.2.2.2 := kp.row r7 (fun k e q => by
      have := (r7.lt k e).1
      have h1 := lt_of_at H6.out.2.2.2.2.2.1
      omega)
    have kw7 : Kept (OwnP s v r u) w W7 := kk.trans kp (fun i hi e => by have := H5.out.2.2.2.2; omega)
    have CS := sameFrame_any (x := y) (y := y) (Row.argX rk HY.out) (Row.argX rk7 HY.out)
    rw [eqF_self] at CS
    obtain ⟨f0, f1, f2, f3⟩ := box4 a7
    obtain ⟨d0, d1, d2, d3⟩ := box4 b7
    have H7 : Hid (PB (fun k => base ≤ k ∧ k < w.heap.size) base W7 s v6 r u7 l0 (m + 1) ∧ Row W5.heap.size W7 (.slice bo6 y.2.2.2.length bc6) y.2.2.2 ∧ Kept (OwnP s v r u) w W7 ∧ W7.heap[w4.heap.size]? = some (.cells #[.int .i64 y.1, .bool y.2.1, .int .i64 y.2.2.1, .slice bo6 y.2.2.2.length bc6] 30 (0, 0)) ∧ (∀ k, OwnP s v6 r u7 k → OwnP s v r u k ∨ w.heap.size ≤ k) ∧ (∀ k, OwnP s v6 r u7 k → k < w.heap.size) ∧ w.heap.size ≤ W5.heap.size ∧ W5.heap.size ≤ W7.heap.size) := ⟨h7', rk, kw7, a7, ow, ow', (HH.out.k.trans' H5.out.2.1).size, Nat.le_trans HS6.out (Nat.le_trans k7.size kp.size)⟩
    have hW7' : W7 = ((((w7.setCell ⟨w5.heap.size, 0, none⟩ (.int .i64 y.1)).setCell ⟨w5.heap.size, 1, none⟩ (.bool y.2.1)).setCell ⟨w5.heap.size, 2, none⟩ (.int .i64 y.2.2.1)).setCell ⟨w5.heap.size, 3, none⟩ (.slice bo7 y.2.2.2.length bc7)) := hW7
    rw [← hW7']
    clear hW7 hW7' kp b7 a7 na nb nI ow' h7' rk rk7 kw7 h7 ow kk q7 ow7 k7 r7 C7 x0 x1 x2 x3 y0 y1 y2 y3 H6 H5
    go_upto_region 18 with (first | (go_at_call 17; refine CS.mono ?_; rintro e w8 ⟨rfl, k8⟩))
    have q1 := k8.row H7.out.2.1 (fun _ _ f => f)
    have q3 := cellAt (k8.at0 H7.out.2.2.2.1) 3
    have CP := spoil14_any q1 rfl HY.out (Nat.le_trans H7.out.2.2.2.2.2.2.2 k8.size)
    have FIN : Hid (∀ w9, Kept (fun i => (Value.slice bo6 y.2.2.2.length bc6).ownBlock = some i) w8 w9 → DoQ base w s v r u m w9) := fun w9 k9 => by
      have lo : ∀ k, (Value.slice bo6 y.2.2.2.length bc6).ownBlock = some k → w.heap.size ≤ k := fun k e => Nat.le_trans H7.out.2.2.2.2.2.2.1 (H7.out.2.1.lt k e).1
      refine ⟨v6, u7, l0, ((H7.out.1.same k8).kept k9 (fun k e q => ?_) (fun k hb q => ?_)).mono (fun k _ hb => hb.1), H7.out.2.2.2.2.1, (H7.out.2.2.1.trans k8 (fun _ _ f => f.elim)).trans k9 (fun i hi e => by have := lo i e; omega)⟩
      · have := H7.out.2.2.2.2.2.1 k e; have := lo k q; omega
      · have := lo k q; omega
    clear q1 CS k8 H7 nOwn
    go_wp2_with (first | (go_at_call 31; refine CP.mono ?_; rintro e w9 ⟨⟨uu, rfl⟩, k9⟩))
    go_ret
    exact ⟨rfl, FIN.out _ k9⟩
set_option maxHeartbeats 4000000 in
theorem do_turn {w0 w : World} {base : Nat} {s : Nat} {v : Value} {r : Nat} {u : Value} {l : List Fr} {m : Nat} (h : Pr base w s v r u l m) (hm : m ≤ 1048577) (hs : Same0 w0 w) (hbase : base = w0.heap.size) (two : Bool) {f : Fr} {fo : Option Addr} {fc : Nat} (hF : Arg w0 fo f.2.2.2 fc) (hfp : f.2.2.2.length ≤ 1048576) {dao : Option Addr} {dt : List Int} {dac : Nat} (hD : Arg w0 dao dt dac) (hdp : dt.length ≤ 1048576) :
    Calls Try.prog 12 #[.pointer (some ⟨s, 0, none⟩), .pointer (some ⟨r, 0, none⟩), opV 4 two f fo fc dao dt.length dac] w fun e w' => e = .returned (.bool true) ∧ DoQ base w s v r u m w' := by
  obtain ⟨W2, hW2⟩ : ∃ W2, W2 = (w.alloc (.cells #[.int .i64 4, .bool two, .int .i64 f.1, .bool f.2.1, .int .i64 f.2.2.1, .slice fo f.2.2.2.length fc, .slice dao dt.length dac] 32)).alloc (.cells #[.int .i64 f.1, .bool f.2.1, .int .i64 f.2.2.1, .slice fo f.2.2.2.length fc] 30) := ⟨_, rfl⟩
  have k2 : Same0 w W2 := by rw [hW2]; exact ((Kept.refl _ w).alloc _).alloc _
  have C0 := lent14_any (cap := fc) (show Arg W2 fo f.2.2.2 fc from ⟨hF.at'.same (hs.trans' k2), hF.cap', hF.nil, hF.size⟩)
  have HW2 : Hid (W2 = (w.alloc (.cells #[.int .i64 4, .bool two, .int .i64 f.1, .bool f.2.1, .int .i64 f.2.2.1, .slice fo f.2.2.2.length fc, .slice dao dt.length dac] 32)).alloc (.cells #[.int .i64 f.1, .bool f.2.1, .int .i64 f.2.2.1, .slice fo f.2.2.2.length fc] 30)) := hW2
  have HP : Hid (Pr base w s v r u l m ∧ Same0 w0 w ∧ base = w0.heap.size) := ⟨h, hs, hbase⟩
  have HA : Hid (Arg w0 fo f.2.2.2 fc ∧ Arg w0 dao dt dac) := ⟨hF, hD⟩
  have HM : Hid (m ≤ 1048577 ∧ f.2.2.2.length ≤ 1048576 ∧ dt.length ≤ 1048576) := ⟨hm, hfp, hdp⟩
  clear h hs hF hD k2 hm hfp hbase hdp
  go_enter Try.func12, Try.ntmps12
  go_upto_region 2 with fail
  rw [← hW2]
  clear hW2
  have bb : W2.cell? ⟨w.heap.size, 5, none⟩ = some (.slice fo f.2.2.2.length fc) := by
    rw [HW2.out]
    exact cellAt ((Below.heap_alloc _ _ _ (by simp)).trans (heap_alloc_new w (.cells #[.int .i64 4, .bool two, .int .i64 f.1, .bool f.2.1, .int .i64 f.2.2.1, .slice fo f.2.2.2.length fc, .slice dao dt.length dac] 32))) 5
  go_upto_region 3 with (first | (go_at_call 26; refine C0.mono ?_; rintro e w3 ⟨g, c, rfl, r3, hc3, k3⟩; obtain ⟨H, c1, c2⟩ := do_head HW2.out k3 r3 hc3))
  obtain ⟨W3, hW3⟩ : ∃ W3, W3 = w3.setCell ⟨w.heap.size + 1, 3, none⟩ (.slice (some ⟨g, 0, none⟩) f.2.2.2.length c) := ⟨_, rfl⟩
  rw [← hW3] at H ⊢
  have HH : Hid (DoH w W3 4 two f fo fc dao dt.length dac g c) := H
  obtain ⟨o0, o1, o2, o3, o4, o5, o6⟩ := box7 H.ob
  obtain ⟨f0, f1, f2, f3⟩ := box4 H.fb
  clear H c1 c2 k3 r3 hc3 hW3 bb C0 HW2
  have LG := (HH.out.lr.lt g rfl)
  have HLG : Hid (w.heap.size + 2 ≤ g ∧ g < W3.heap.size) := LG
  have nOwn : Hid (∀ k, OwnP s v r u k → k < w.heap.size ∧ base ≤ k) := fun k e => ⟨(HP.out.1.notI e).2.2, (HP.out.1.notI e).2.1⟩
  have H3 : Hid (PB (fun k => base ≤ k ∧ k ≠ g) base W3 s v r u l m) := ((HP.out.1.mono (B' := fun k => base ≤ k ∧ k < w.heap.size) (fun k a b => ⟨b, a⟩)).same HH.out.k).mono (fun k _ b => ⟨b.1, by have := LG.1; omega⟩)
  clear LG
  rcases snocF l with e | ⟨l0, y, e⟩
  · subst e
    have C1 := turn_no H3.out.p f (some ⟨g, 0, none⟩) c
    go_upto_region 22 with (first | (go_at_call 18; refine C1.mono ?_; rintro e w4 ⟨rfl, k4⟩))
    have C2 := rturn_no (H3.out.q.same k4) f fo fc
    obtain ⟨a0, a1, a2, a3, a4, a5, a6⟩ := box7 (k4.at0 HH.out.ob)
    have K4 : Hid (Same0 W3 w4) := k4
    clear C1 k4 o0 o1 o2 o3 o4 o5 o6 f0 f1 f2 f3
    go_upto_region 23 with (first | (go_at_call 32; refine C2.mono ?_; rintro e w5 ⟨rfl, k5⟩))
    have kk := K4.out.trans' k5
    obtain ⟨a0, a1, a2, a3, a4, a5, a6⟩ := box7 (kk.at0 HH.out.ob)
    obtain ⟨f0, f1, f2, f3⟩ := box4 (kk.at0 HH.out.fb)
    have lr5 := kk.row HH.out.lr (fun _ _ f => f)
    have K05 : Same0 w0 w5 := (HP.out.2.1.trans' HH.out.k).trans' kk
    have CH := held14_any lr5 HH.out.lc (show Arg w5 fo f.2.2.2 fc from ⟨HA.out.1.at'.same K05, HA.out.1.cap', HA.out.1.nil, HA.out.1.size⟩) (fun h0 a e q => by
      have := HA.out.1.at'.ltF h0 e
      have := HLG.out.1
      have := HP.out.2.1.size
      omega)
    have FIN : Hid (∀ w6, Kept (fun i => i = g) w5 w6 → DoQ base w s v r u m w6) := fun w6 k6 => DoQ.still HP.out.1 ((HH.out.k.trans' kk).trans k6 (fun i hi e => by have := HLG.out.1; omega))
    clear C2 kk lr5 K05 k5 H3 nOwn
    go_wp2_with (first | (go_at_call 28; refine CH.mono ?_; rintro e w6 ⟨rfl, k6⟩))
    go_ret
    exact ⟨rfl, FIN.out _ k6⟩
  · subst e
    have hbz : base ≤ W3.heap.size := by have := H3.out.p.low; have := H3.out.p.lt; omega
    have C1 := turn_yes H3.out.p (HH.out.arg HM.out.2.1) (fun k hk => ⟨by omega, by have := HLG.out.2; omega⟩)
    clear hbz
    go_upto_region 22 with (first | (go_at_call 18; refine C1.mono ?_; rintro e w4 ⟨rfl, p4, k4⟩))
    have k4' := k4.mono (S' := fun k => k = s ∨ v.ownBlock = some k) (fun _ _ e => .inr e)
    have q4 := H3.out.left p4 k4'
    have hz4 := k4.size
    have K04 : Same0 w0 w4 := (HP.out.2.1.trans' HH.out.k).trans k4 (fun i hi e => by
      have := HP.out.2.2
      have := (nOwn.out i (.inr (.inl e))).2
      omega)
    obtain ⟨a0, a1, a2, a3, a4, a5, a6⟩ := box7 (k4.at HH.out.ob (fun e => by have := (nOwn.out _ (.inr (.inl e))).1; omega))
    have C2 := rturn_yes q4 (x := f) (ac := fc) (show Arg w4 fo f.2.2.2 fc from ⟨HA.out.1.at'.same K04, HA.out.1.cap', HA.out.1.nil, HA.out.1.size⟩) (fun k hk => ⟨by have := H3.out.p.low; have := H3.out.p.lt; omega, by have := HLG.out.2; omega⟩)
    have P4 : Hid (SpT 53 (fun k => base ≤ k ∧ k ≠ g) base w4 s v (l0 ++ [f]) ∧ Kept (fun k => k = s ∨ v.ownBlock = some k) W3 w4) := ⟨p4, k4'⟩
    clear C1 p4 k4 k4' q4 hz4 K04 o0 o1 o2 o3 o4 o5 o6 f0 f1 f2 f3
    go_upto_region 23 with (first | (go_at_call 32; refine C2.mono ?_; rintro e w5 ⟨rfl, q5, k5⟩))
    obtain ⟨h5, ow, kk⟩ := H3.out.both P4.out.1 (fun k e => .inl e) P4.out.2 q5 (fun k e => .inl e) (k5.mono (fun _ _ e => .inr e)) (m1 := m + 1) (by have := H3.out.len; simp at this ⊢; omega) (fun x hx => by
      rcases List.mem_append.1 hx with e | e
      · exact H3.out.pth x (by simp [e])
      · rw [List.mem_singleton.1 e]; exact HM.out.2.1)
    have nb5 : ∀ j, w.heap.size ≤ j → ¬ OwnP s v r u j := fun j hj e => by have := (nOwn.out j e).1; omega
    have K05 : Same0 w0 w5 := (HP.out.2.1.trans' HH.out.k).trans kk (fun i hi e => by
      have := HP.out.2.2
      have := (nOwn.out i e).2
      omega)
    obtain ⟨a0, a1, a2, a3, a4, a5, a6⟩ := box7 (kk.at HH.out.ob (nb5 _ (Nat.le_refl _)))
    obtain ⟨f0, f1, f2, f3⟩ := box4 (kk.at HH.out.fb (nb5 _ (by omega)))
    have lr5 := kk.row HH.out.lr (fun k e f => nb5 k (by have := (HH.out.lr.lt k e).1; omega) f)
    have CH := held14_any lr5 HH.out.lc (show Arg w5 fo f.2.2.2 fc from ⟨HA.out.1.at'.same K05, HA.out.1.cap', HA.out.1.nil, HA.out.1.size⟩) (fun h0 a e q => by
      have := HA.out.1.at'.ltF h0 e
      have := HLG.out.1
      have := HP.out.2.1.size
      omega)
    have FIN : Hid (∀ w6, Kept (fun i => i = g) w5 w6 → DoQ base w s v r u m w6) := fun w6 k6 => by
      refine ⟨v, u, l0 ++ [f], (h5.kept k6 (fun k e q => ?_) (fun k hb q => absurd q hb.2)).mono (fun k _ hb => hb.1), fun k e => .inl e, ((HH.out.k.mono (fun _ _ f => f.elim)).trans kk (fun _ _ e => e)).trans k6 (fun i hi e => by have := HLG.out.1; omega)⟩
      have h1 := (h5.notI e).1
      obtain ⟨cur, hc⟩ := Row.isI lr5 (k := g) rfl
      rw [q] at h1
      exact h1 cur hc
    clear C2 h5 ow kk nb5 K05 lr5 q5 k5 P4 H3 nOwn
    go_wp2_with (first | (go_at_call 28; refine CH.mono ?_; rintro e w6 ⟨rfl, k6⟩))
    go_ret
    exact ⟨rfl, FIN.out _ k6⟩
theorem Row.up {N : Nat} {w : World} {v : Value} {xs : List Int} (h : Row 0 w v xs) (hN : ∀ k, v.ownBlock = some k → N ≤ k) : Row N w v xs := by
  refine ⟨h.1, h.2.imp id ?_⟩
  rintro ⟨g, cap, cur, rfl, _, r⟩
  exact ⟨g, cap, cur, rfl, hN g rfl, r⟩
/-- Frames that came out, from the k-th on as they were: their paths are rows in unlike blocks. -/
structure FK (n k N : Nat) (v : Value) (l : List Fr) (W3 wr : World) : Prop where
  ex : ∃ vs, wr.ownsRow N 30 4 v n vs ∧ FDj vs n ∧ ∀ j (hj : j < l.length), k ≤ j → ∃ ao ac, vs[j * 4 + 3]? = some (.slice ao l[j].2.2.2.length ac) ∧ Row N wr (.slice ao l[j].2.2.2.length ac) l[j].2.2.2
  len : l.length = n
  sm : Same0 W3 wr
theorem FK.start {N : Nat} {w W3 : World} {v : Value} {l : List Fr} (h : FRow (fun b => N ≤ b) N w v l) (hs : Same0 W3 w) : FK l.length 0 N v l W3 w := by
  obtain ⟨vs, h1, h2, h3⟩ := h
  refine ⟨⟨vs, h1, h3, fun j hj _ => ?_⟩, rfl, hs⟩
  obtain ⟨ao, ac, _, _, _, g3, g4, g5⟩ := h2.2 j hj
  exact ⟨ao, ac, g3, g4.2.up (fun k e => by
    cases ao with
    | none => cases e
    | some a => have e2 : a.block = k := Option.some.inj e; rw [← e2]; exact g5 a rfl)⟩
theorem FK.at {n k N g cap : Nat} {l : List Fr} {W3 wr : World} (h : FK n k N (.slice (some ⟨g, 0, none⟩) n cap) l W3 wr) (hk : k < l.length) : ∃ ao ac, wr.cell? ⟨g, k * 4 + 3, none⟩ = some (.slice ao l[k].2.2.2.length ac) ∧ Row N wr (.slice ao l[k].2.2.2.length ac) l[k].2.2.2 ∧ N ≤ wr.heap.size := by
  obtain ⟨vs, h1, h2, h3⟩ := h.ex
  obtain ⟨ao, ac, g3, g4⟩ := h3 k hk (Nat.le_refl _)
  have hl := h.len
  refine ⟨ao, ac, by rw [h1.cellAt _ (by omega)]; exact g3, g4, ?_⟩
  have := h1.lt g rfl
  omega
theorem FK.spoil {n k N g cap : Nat} {l : List Fr} {W3 wr w' : World} (h : FK n k N (.slice (some ⟨g, 0, none⟩) n cap) l W3 wr) (hk : k < l.length) (hN : N = W3.heap.size) {ao : Option Addr} {ac : Nat} (hc : wr.cell? ⟨g, k * 4 + 3, none⟩ = some (.slice ao l[k].2.2.2.length ac)) (hr : Row N wr (.slice ao l[k].2.2.2.length ac) l[k].2.2.2) (hk' : Kept (fun i => (Value.slice ao l[k].2.2.2.length ac).ownBlock = some i) wr w') : FK n (k + 1) N (.slice (some ⟨g, 0, none⟩) n cap) l W3 w' := by
  obtain ⟨vs, h1, h2, h3⟩ := h.ex
  have hl := h.len
  have hv : vs[k * 4 + 3]? = some (.slice ao l[k].2.2.2.length ac) := by rw [← hc, h1.cellAt _ (by omega)]
  refine ⟨⟨vs, hk'.row h1 (fun z e f => ?_), h2, fun j hj hkj => ?_⟩, h.len, h.sm.trans hk' (fun i hi e => by have := (hr.lt i e).1; omega)⟩
  · obtain ⟨cur, hcur⟩ := Row.isI hr f
    rcases h1.2 with ⟨e2, _⟩ | ⟨g', cap', cur', e2, _, hg, _⟩
    · cases e2
    · simp only [Value.slice.injEq, Option.some.injEq, Addr.mk.injEq, and_true] at e2
      have e3 : g = z := Option.some.inj e
      rw [← e2.1, e3, hcur] at hg
      cases hg
  · obtain ⟨bo, bc, g3, g4⟩ := h3 j hj (by omega)
    refine ⟨bo, bc, g3, hk'.row g4 (fun z e f => ?_)⟩
    exact h2 k j (by omega) (by omega) _ _ hv g3 z f e
theorem FK.node {n k N g cap : Nat} {l : List Fr} {W3 wr : World} (h : FK n k N (.slice (some ⟨g, 0, none⟩) n cap) l W3 wr) (hN : N = W3.heap.size) {i : Nat} (hi : i < n) (z : Int) : FK n k N (.slice (some ⟨g, 0, none⟩) n cap) l W3 (wr.setCell ⟨g, i * 4, none⟩ (.int .i64 z)) ∧ (∃ u, wr.cell? ⟨g, i * 4, none⟩ = some u) ∧ wr.frozen? ⟨g, i * 4, none⟩ = false := by
  obtain ⟨vs, h1, h2, h3⟩ := h.ex
  have ks : Kept (fun k => k = g) wr (wr.setCell ⟨g, i * 4, none⟩ (.int .i64 z)) := Kept.setCell (S := fun k => k = g) (Kept.refl _ wr) (p := ⟨g, i * 4, none⟩) (fun _ => rfl) _
  have hg := h1.lt g rfl
  have nI : NotI wr g := fun cur hc => by
    rcases h1.2 with ⟨e2, _⟩ | ⟨g', cap', cur', e2, _, hg', _⟩
    · cases e2
    · simp only [Value.slice.injEq, Option.some.injEq, Addr.mk.injEq, and_true] at e2
      rw [← e2.1, hc] at hg'
      cases hg'
  have hlen : i * 4 < vs.length := by have := h1.1; omega
  refine ⟨⟨⟨_, (h1.stored (i * 4) _).1, h2.node i _, fun j hj hkj => ?_⟩, h.len, h.sm.trans ks (fun i hi e => by omega)⟩, ⟨_, (h1.cellAt _ (by omega)).trans (List.getElem?_eq_getElem hlen)⟩, h1.frozenAt _⟩
  obtain ⟨bo, bc, g3, g4⟩ := h3 j hj hkj
  exact ⟨bo, bc, by rw [List.getElem?_set_ne (by omega)]; exact g3, g4.keptI ks (fun k e => by rw [e]; exact nI)⟩
set_option maxHeartbeats 4000000 in
theorem do_frames {w0 w : World} {base : Nat} {s : Nat} {v : Value} {r : Nat} {u : Value} {l : List Fr} {m : Nat} (h : Pr base w s v r u l m) (hm : m ≤ 1048577) (hs : Same0 w0 w) (hbase : base = w0.heap.size) (two : Bool) {f : Fr} {fo : Option Addr} {fc : Nat} (hF : Arg w0 fo f.2.2.2 fc) (hfp : f.2.2.2.length ≤ 1048576) {dao : Option Addr} {dt : List Int} {dac : Nat} (hD : Arg w0 dao dt dac) (hdp : dt.length ≤ 1048576) :
    Calls Try.prog 12 #[.pointer (some ⟨s, 0, none⟩), .pointer (some ⟨r, 0, none⟩), opV 7 two f fo fc dao dt.length dac] w fun e w' => e = .returned (.bool true) ∧ DoQ base w s v r u m w' := by
  obtain ⟨W2, hW2⟩ : ∃ W2, W2 = (w.alloc (.cells #[.int .i64 7, .bool two, .int .i64 f.1, .bool f.2.1, .int .i64 f.2.2.1, .slice fo f.2.2.2.length fc, .slice dao dt.length dac] 32)).alloc (.cells #[.int .i64 f.1, .bool f.2.1, .int .i64 f.2.2.1, .slice fo f.2.2.2.length fc] 30) := ⟨_, rfl⟩
  have k2 : Same0 w W2 := by rw [hW2]; exact ((Kept.refl _ w).alloc _).alloc _
  have C0 := lent14_any (cap := fc) (show Arg W2 fo f.2.2.2 fc from ⟨hF.at'.same (hs.trans' k2), hF.cap', hF.nil, hF.size⟩)
  have HW2 : Hid (W2 = (w.alloc (.cells #[.int .i64 7, .bool two, .int .i64 f.1, .bool f.2.1, .int .i64 f.2.2.1, .slice fo f.2.2.2.length fc, .slice dao dt.length dac] 32)).alloc (.cells #[.int .i64 f.1, .bool f.2.1, .int .i64 f.2.2.1, .slice fo f.2.2.2.length fc] 30)) := hW2
  have HP : Hid (Pr base w s v r u l m ∧ Same0 w0 w ∧ base = w0.heap.size) := ⟨h, hs, hbase⟩
  have HA : Hid (Arg w0 fo f.2.2.2 fc ∧ Arg w0 dao dt dac) := ⟨hF, hD⟩
  have HM : Hid (m ≤ 1048577 ∧ f.2.2.2.length ≤ 1048576 ∧ dt.length ≤ 1048576) := ⟨hm, hfp, hdp⟩
  clear h hs hF hD k2 hm hfp hbase hdp
  go_enter Try.func12, Try.ntmps12
  go_upto_region 2 with fail
  rw [← hW2]
  clear hW2
  have bb : W2.cell? ⟨w.heap.size, 5, none⟩ = some (.slice fo f.2.2.2.length fc) := by
    rw [HW2.out]
    exact cellAt ((Below.heap_alloc _ _ _ (by simp)).trans (heap_alloc_new w (.cells #[.int .i64 7, .bool two, .int .i64 f.1, .bool f.2.1, .int .i64 f.2.2.1, .slice fo f.2.2.2.length fc, .slice dao dt.length dac] 32))) 5
  go_upto_region 3 with (first | (go_at_call 26; refine C0.mono ?_; rintro e w3 ⟨g, c, rfl, r3, hc3, k3⟩; obtain ⟨H, c1, c2⟩ := do_head HW2.out k3 r3 hc3))
  obtain ⟨W3, hW3⟩ : ∃ W3, W3 = w3.setCell ⟨w.heap.size + 1, 3, none⟩ (.slice (some ⟨g, 0, none⟩) f.2.2.2.length c) := ⟨_, rfl⟩
  rw [← hW3] at H ⊢
  have HH : Hid (DoH w W3 7 two f fo fc dao dt.length dac g c) := H
  obtain ⟨o0, o1, o2, o3, o4, o5, o6⟩ := box7 H.ob
  obtain ⟨f0, f1, f2, f3⟩ := box4 H.fb
  clear H c1 c2 k3 r3 hc3 hW3 bb C0 HW2
  have h3 := HP.out.1.same HH.out.k
  obtain ⟨bp, bl⟩ := h3.paths (by have := HM.out.1; omega)
  have C1 := frames_any h3.p (by omega)
  have H3 : Hid (Pr base W3 s v r u l m ∧ l.length ≤ 1048578) := ⟨h3, bl⟩
  have hbl : l.length ≤ 1048578 := bl
  clear h3 bp bl
  go_upto_region 35 with (first | (go_at_call 22; refine C1.mono ?_; rintro e w4 ⟨u4, rfl, r4, k4⟩))
  obtain ⟨xo, xc, e4⟩ := r4.shape
  subst e4
  obtain ⟨uo, uc, eu⟩ := H3.out.1.q.row.shape
  have q4 := H3.out.1.q.same k4
  rw [eu] at q4
  have c0 := q4.cell.1
  have CS := sameFrames_any (ac := xc) (bc := uc) r4.mem q4.row.mem (by unfold maxLen; omega)
  rw [eqFs_self] at CS
  have HR : Hid (∀ w5, Same0 w4 w5 → FK l.length 0 W3.heap.size (.slice xo l.length xc) l W3 w5) := fun w5 hk => FK.start (r4.same hk) (k4.trans' hk)
  clear C1 r4 k4 q4 eu
  go_upto_region 37 with (first | (go_at_call 24; refine CS.mono ?_; rintro e w5 ⟨rfl, k5⟩))
  have H0 := (show Hid _ from HR.out w5 k5)
  clear CS HR k5 c0
  go_loopw [19] (fun i wr => ∃ k : Nat, i = .int .i64 (k : Int) ∧ k ≤ l.length ∧ Hid (FK l.length k W3.heap.size (.slice xo l.length xc) l W3 wr)) (fun i _ => l.length - (intOf i).toNat)
  case atStart => exact ⟨0, rfl, Nat.zero_le _, H0⟩
  case round =>
    clear H0
    obtain ⟨k, rfl, hk, HK⟩ := hrel
    by_cases hlt : k < l.length
    · have i0 : (0 : Int) ≤ (k : Int) := by omega
      have i1 : (k : Int) < (l.length : Int) := by omega
      have i2 : IntKind.i64.wrap ((k : Int) + 1) = (k : Int) + 1 := fwrap (by omega) (by omega)
      obtain ⟨g4, e⟩ : ∃ g4, xo = some ⟨g4, 0, none⟩ := by
        obtain ⟨vs, h1, _⟩ := HK.out.ex
        rcases h1.2 with ⟨e, q⟩ | ⟨g', cap, cur, e, _⟩
        · omega
        · simp only [Value.slice.injEq] at e; exact ⟨g', e.1⟩
      subst e
      obtain ⟨ao, ac, c3, r3, hz⟩ := HK.out.at hlt
      have hy := HP.out.1.pth l[k] (List.getElem_mem hlt)
      have CP := spoil14_any r3 rfl (by omega) hz
      have HN : Hid (∀ w6, Kept (fun i => (Value.slice ao l[k].2.2.2.length ac).ownBlock = some i) wr w6 → Hid (FK l.length (k + 1) W3.heap.size (.slice (some ⟨g4, 0, none⟩) l.length xc) l W3 (w6.setCell ⟨g4, k * 4, none⟩ (.int .i64 (-9)))) ∧ (∃ z, w6.cell? ⟨g4, k * 4, none⟩ = some z) ∧ w6.frozen? ⟨g4, k * 4, none⟩ = false) := fun w6 k6 => by
        obtain ⟨a1, a2, a3⟩ := (HK.out.spoil hlt rfl c3 r3 k6).node rfl (i := k) hlt (-9)
        exact ⟨a1, a2, a3⟩
      clear r3 hz hy HK
      generalize l[k].2.2.2.length = n at *
      go_wp2_with (first | (go_at_call 31; refine CP.mono ?_; rintro e w6 ⟨⟨uu, rfl⟩, k6⟩; obtain ⟨HF, ⟨zz, d1⟩, d2⟩ := HN.out w6 k6; clear k6))
      go_roundw
      case rel => first | exact ⟨k + 1, by go_num, by omega, HF⟩ | ((repeat apply Exists.intro); exact ⟨⟨k + 1, by go_num, by omega, HF⟩, rfl⟩)
      case measure => simp [intOf]; omega
    · have hkl : k = l.length := by omega
      have FIN : Hid (DoQ base w s v r u m wr) := DoQ.still HP.out.1 (HH.out.k.trans' HK.out.sm)
      subst hkl
      clear HK
      go_wp2
      go_ret
      exact ⟨rfl, FIN.out⟩
end Go.Proofs.Ytikcocjbbbdmgaa
