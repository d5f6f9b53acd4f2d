import Derived.Test.YtbjfpfnfbgncnaaGreatDoorM17
import Derived.Test.YtbjfpfnfbgncnaaGreatDoorM21
import Derived.Test.YtbjfpfnfbgncnaaGreatDoorM27
import Derived.Test.YtbjfpfnfbgncnaaGreatDoorM12
/- The walks of how names and lengths are looked at, and how variables are numbered. -/
namespace Go.Proofs.YtbjfpfnfbgncnaaGreatDoor
open Go.RowKit
set_option linter.unusedVariables false
set_option maxRecDepth 100000
/-- A map of variables' numbers: those of kn, by their places. -/
def VarsAt (w : World) (bm : Nat) (kn : List (List UInt8)) : Prop := ∃ n D, w.ownsMap (H := Unit) Tryz.prog 9 (plainElem Tryz.prog 3) bm n D ∧ n ≤ kn.length ∧ Maps.size D = kn.length ∧
  ∀ s : List UInt8, Maps.has D (.string s) = decide (s ∈ kn) ∧ (s ∈ kn → D.atKey (.string s) (.lit (.int .i64 0)) = .lit (.int .i64 ((kn.idxOf s : Int) + 1)))
theorem VarsAt.kept {w w' : World} {bm : Nat} {kn : List (List UInt8)} {S : Nat → Prop} (h : VarsAt w bm kn) (hk : Kept S w w') (hs : ¬ S bm) : VarsAt w' bm kn := by
  obtain ⟨n, D, hm, r⟩ := h
  exact ⟨n, D, hk.map hm hs, r⟩
theorem VarsAt.lt {w : World} {bm : Nat} {kn : List (List UInt8)} (h : VarsAt w bm kn) : bm < w.heap.size := by
  obtain ⟨n, D, hm, r⟩ := h
  exact hm.lt
theorem VarsAt.made (w : World) : VarsAt (w.alloc (.map #[] 0)) w.heap.size [] :=
  ⟨0, .map [], World.ownsMap_made w _ _ _, Nat.le_refl _, rfl, fun s => ⟨by simp [Maps.has], fun h => by simp at h⟩⟩
theorem VarsAt.look {w : World} {bm : Nat} {kn : List (List UInt8)} (h : VarsAt w bm kn) {s : List UInt8} (hs : s.length ≤ 20000) :
    (Instr.lookup 67 (.map (some bm)) (.string (txt s)) true).run Tryz.prog w = .ok (.tuple #[.int .i64 (if s ∈ kn then (kn.idxOf s : Int) + 1 else 0), .bool (decide (s ∈ kn))]) w := by
  obtain ⟨n, D, hm, hn, hsz, hall⟩ := h
  have hk : keyOf Tryz.prog 9 (.string (txt s)) = some (.string s) := by
    have := key_str (s := txt s) (by rw [txt_size]; unfold maxLen; omega)
    rwa [txt_list] at this
  obtain ⟨v, ps, hrun, hv⟩ := hm.look_ok law_string Tryz.underlying67 (zero_int w) (plainElem_int Tryz.underlying3 (by decide)) hk
  obtain ⟨a, rfl, hz, _⟩ := plainElem_int_inv Tryz.underlying3 hv
  rw [hrun, (hall s).1]
  simp only [Prod.mk.injEq] at hz
  by_cases hf : s ∈ kn
  · rw [(hall s).2 hf] at hz
    have := hz.1
    simp at this
    simp [hf, ← this]
  · have hno : Maps.has D (.string s) = false := by rw [(hall s).1]; simp [hf]
    rw [Maps.atKey_of_not_has hno] at hz
    have := hz.1
    simp at this
    simp [hf, ← this]
theorem VarsAt.len {w : World} {bm : Nat} {kn : List (List UInt8)} (h : VarsAt w bm kn) (ty : TypeId) : (Builtin.len_ #[67] ty #[.map (some bm)]).run Tryz.prog w = .ok (.int .i64 (kn.length : Int)) w := by
  obtain ⟨n, D, hm, hn, hsz, hall⟩ := h
  rw [hm.len Tryz.underlying67 ty, hsz]
theorem VarsAt.more {w w' : World} {bm n : Nat} {kn : List (List UInt8)} {D : DataW Unit} {s : List UInt8} (hm : w.ownsMap (H := Unit) Tryz.prog 9 (plainElem Tryz.prog 3) bm n D) (hn : n ≤ kn.length) (hsz : Maps.size D = kn.length)
    (hall : ∀ s : List UInt8, Maps.has D (.string s) = decide (s ∈ kn) ∧ (s ∈ kn → D.atKey (.string s) (.lit (.int .i64 0)) = .lit (.int .i64 ((kn.idxOf s : Int) + 1)))) (hs : s ∉ kn)
    (h' : w'.ownsMap (H := Unit) Tryz.prog 9 (plainElem Tryz.prog 3) bm (n + 1) (D.put (.string s) (.lit (.int .i64 ((kn.length : Int) + 1))))) : VarsAt w' bm (kn ++ [s]) := by
  have hkl : WideAt.IsKeyLit (.string s) := by first | exact trivial | (simp [WideAt.IsKeyLit]) | exact .inr trivial
  refine ⟨n + 1, _, h', by simp; omega, ?_, fun u => ?_⟩
  · rw [Maps.size_put (hm.tidy law_string), (hall s).1]
    simp [hs, hsz]
  · by_cases hu : u = s
    · subst hu
      rw [Maps.has_put_same hm.isMap hkl, Maps.atKey_put_same hm.isMap hkl]
      refine ⟨by simp, fun _ => ?_⟩
      rw [List.idxOf_append, if_neg hs]
      simp
    · have hne : Lit.string u ≠ .string s := by simpa using hu
      rw [Maps.has_put_other hne, Maps.atKey_put_other hne, (hall u).1]
      refine ⟨by simp [hu], fun h => ?_⟩
      have hm2 : u ∈ kn := by simpa [hu] using h
      rw [(hall u).2 hm2, List.idxOf_append, if_pos hm2]
def aggW (x : Item) : Value := .agg #[.int .i64 (x.t.kind : Int), .int .i64 (x.t.at' : Int), .string (txt x.t.text), .int .i64 (x.args : Int)]
set_option maxHeartbeats 2000000 in
theorem number_have {w : World} {bm : Nat} {kn : List (List UInt8)} (h : VarsAt w bm kn) (x : Item) (hx : x.t.text.length ≤ 20000) (hk : x.t.text ∈ kn) (hl : kn.length ≤ 99) :
    Calls Tryz.prog 58 #[.map (some bm), aggW x] w fun e w' => e = .returned (.int .i64 ((kn.idxOf x.t.text : Int) + 1)) ∧ Same0 w w' := by
  have k0 : Same0 w (w.alloc (.cells #[.int .i64 (x.t.kind : Int), .int .i64 (x.t.at' : Int), .string (txt x.t.text), .int .i64 (x.args : Int)] 116)) := Kept.alloc (Kept.refl _ w) _
  have hl1 := (h.kept k0 (fun f => f)).look hx
  rw [if_pos hk, decide_eq_true hk] at hl1
  unfold aggW
  clear h hk
  go_enter Tryz.func58, Tryz.ntmps58
  go_wp2_with fail
  go_ret
  exact ⟨rfl, k0⟩
set_option maxHeartbeats 2000000 in
theorem number_full {w : World} {bm : Nat} {kn : List (List UInt8)} (h : VarsAt w bm kn) (x : Item) (hx : x.t.text.length ≤ 20000) (hk : ¬ x.t.text ∈ kn) (hl : kn.length = 99) :
    Calls Tryz.prog 58 #[.map (some bm), aggW x] w fun e w' => GaveUp w.heap.size w' e 46 x.t.at' ∧ Same0 w w' := by
  have k0 : Same0 w (w.alloc (.cells #[.int .i64 (x.t.kind : Int), .int .i64 (x.t.at' : Int), .string (txt x.t.text), .int .i64 (x.args : Int)] 116)) := Kept.alloc (Kept.refl _ w) _
  have hl1 := (h.kept k0 (fun f => f)).look hx
  rw [if_neg hk, decide_eq_false hk] at hl1
  have hl2 := (h.kept k0 (fun f => f)).len 3
  rw [hl] at hl2
  unfold aggW
  clear h hk
  go_enter Tryz.func58, Tryz.ntmps58
  go_wp2_with (first | (go_at_call 49; refine (giveUp_any _ _ _).mono ?_; rintro e w' ⟨rfl, rfl⟩))
  exact ⟨rfl, ⟨_, rfl, by go_size, alloc_at1 _ _ _⟩, Kept.alloc (Kept.alloc (Kept.refl _ w) _) _⟩
set_option maxHeartbeats 2000000 in
theorem number_new {w : World} {bm : Nat} {kn : List (List UInt8)} (h : VarsAt w bm kn) (x : Item) (hx : x.t.text.length ≤ 20000) (hk : ¬ x.t.text ∈ kn) (hl : kn.length < 99) :
    Calls Tryz.prog 58 #[.map (some bm), aggW x] w fun e w' => e = .returned (.int .i64 ((kn.length : Int) + 1)) ∧ VarsAt w' bm (kn ++ [x.t.text]) ∧ Kept (fun i => i = bm) w w' := by
  have k0 : Same0 w (w.alloc (.cells #[.int .i64 (x.t.kind : Int), .int .i64 (x.t.at' : Int), .string (txt x.t.text), .int .i64 (x.args : Int)] 116)) := Kept.alloc (Kept.refl _ w) _
  have h1 := h.kept k0 (fun f => f)
  have hl1 := h1.look hx
  rw [if_neg hk, decide_eq_false hk] at hl1
  have hl2 := h1.len 3
  have hkey : keyOf Tryz.prog 9 (.string (txt x.t.text)) = some (.string x.t.text) := by
    have := key_str (s := txt x.t.text) (by rw [txt_size]; unfold maxLen; omega)
    rwa [txt_list] at this
  obtain ⟨n, D, hm, hn, hsz, hall⟩ := h1
  have HM : Hid (∀ w', w'.ownsMap (H := Unit) Tryz.prog 9 (plainElem Tryz.prog 3) bm (n + 1) (D.put (.string x.t.text) (.lit (.int .i64 ((kn.length : Int) + 1)))) → VarsAt w' bm (kn ++ [x.t.text])) := fun w' h' => VarsAt.more hm hn hsz hall hk h'
  have hne : ((kn.length : Int) == 99) = false := by simp; omega
  have hval : plainElem (H := Unit) Tryz.prog 3 (.int .i64 ((kn.length : Int) + 1)) = some (.lit (.int .i64 ((kn.length : Int) + 1)), []) := plainElem_int Tryz.underlying3 (WalkArith.wf_i64 (by omega))
  have hnm : n < maxLen := by unfold maxLen; omega
  have hlen : kn.length < 99 := hl
  unfold aggW
  clear h hall hsz hk
  go_enter Tryz.func58, Tryz.ntmps58
  go_wp2_with (first | (at_mapUpdate; refine wpList_mapUpdate_own _ rfl _ _ _ 67 rfl 9 3 law_string Tryz.underlying67 _ bm n _ rfl hm hnm _ _ _ rfl rfl hkey _ [] hval ?_; intro w1 hown1 hgrow1))
  go_ret
  exact ⟨rfl, HM.out _ hown1, Kept.grown (Kept.mono k0 (fun _ _ f => f.elim)) hgrow1 (fun j e _ => by cases e; rfl)⟩
set_option maxHeartbeats 1000000 in
theorem demand_some (b : Nat) (w : World) : Calls Tryz.prog 21 #[.pointer (some ⟨b, 0, none⟩)] w fun e w' => e = .returned (.tuple #[]) ∧ w' = w := by
  go_enter Tryz.func21, Tryz.ntmps21
  go_wp2_with fail
  go_end0
  exact ⟨rfl, rfl⟩
set_option maxHeartbeats 1000000 in
theorem demand_none (w : World) : Calls Tryz.prog 21 #[.pointer none] w fun e w' => GaveUp w.heap.size w' e 1 0 ∧ Same0 w w' := by
  go_enter Tryz.func21, Tryz.ntmps21
  go_wp2_with (first | (go_at_call 49; refine (giveUp_any _ _ _).mono ?_; rintro e w' ⟨rfl, rfl⟩))
  exact ⟨rfl, ⟨_, rfl, Nat.le_refl _, heap_alloc_new _ _⟩, Kept.alloc (Kept.refl _ w) _⟩
set_option maxHeartbeats 1000000 in
theorem long_no {w : World} {base : Nat} {ao : Option Addr} {cap : Nat} {l : List Item} (hl : l.length ≤ 2000) : Calls Tryz.prog 26 #[.slice ao l.length cap] w fun e w' => e = .returned (.tuple #[]) ∧ w' = w := by
  have h2 : ¬ ((2000 : Int) < (l.length : Int)) := by omega
  go_enter Tryz.func26, Tryz.ntmps26
  go_wp2_with fail
  go_end0
  exact ⟨rfl, rfl⟩
set_option maxHeartbeats 1000000 in
theorem long_yes {w : World} {base : Nat} {ao : Option Addr} {cap : Nat} {l : List Item} (h : WRow base w (.slice ao l.length cap) l) (hl : 2000 < l.length) : Calls Tryz.prog 26 #[.slice ao l.length cap] w fun e w' => GaveUp w.heap.size w' e 45 l[0].t.at' ∧ Same0 w w' := by
  have h2 : (2000 : Int) < (l.length : Int) := by omega
  obtain ⟨g, rfl, _, _, _, q, _, _⟩ := h.get (i := 0) (by omega)
  obtain ⟨p, hp⟩ : ∃ p, p = l[0].t.at' := ⟨_, rfl⟩
  rw [← hp] at q ⊢
  simp only [Nat.zero_mul, Nat.zero_add] at q
  clear h hp
  go_enter Tryz.func26, Tryz.ntmps26
  go_wp2_with (first | (go_at_call 49; refine (giveUp_any _ _ _).mono ?_; rintro e w' ⟨rfl, rfl⟩))
  exact ⟨rfl, ⟨_, rfl, Nat.le_refl _, heap_alloc_new _ _⟩, Kept.alloc (Kept.refl _ w) _⟩
def badAt : Option (Nat × Nat) → Ending → World → World → Prop
  | none, e, w, w' => e = .returned (.tuple #[]) ∧ Same0 w w'
  | some (c, p), e, w, w' => GaveUp w.heap.size w' e c p ∧ Same0 w w'
set_option maxHeartbeats 4000000 in
theorem names_any {w : World} {base nb b : Nat} {L : List Sym} (hS : Sg nb w b L) {ao : Option Addr} {cap : Nat} {l : List Item} (h : WRow base w (.slice ao l.length cap) l) (ht : ∀ x ∈ l, x.t.text.length ≤ 20000) (hl : l.length ≤ 50000) :
    Calls Tryz.prog 25 #[.pointer (some ⟨b, 0, none⟩), .slice ao l.length cap] w fun e w' => badAt (badName L l) e w w' := by
  have HS : Hid (Sg nb w b L) := hS
  have HR : Hid (WRow base w (.slice ao l.length cap) l) := h
  have HT : Hid (∀ x ∈ l, x.t.text.length ≤ 20000) := ht
  clear hS h ht
  obtain ⟨R, hR⟩ : ∃ R, badName L l = R := ⟨_, rfl⟩
  rw [hR]
  have HRR : Hid (badName L l = R) := hR
  clear hR
  go_enter Tryz.func25, Tryz.ntmps25
  go_wp2
  go_loopw [12] (fun x wr => ∃ k : Nat, x = .int .i64 (k : Int) ∧ k ≤ l.length ∧ Hid (badName L l = badName L (l.drop k)) ∧ Same0 w wr) (fun x _ => l.length - (intOf x).toNat)
  case atStart => exact ⟨0, rfl, Nat.zero_le _, rfl, Kept.refl _ _⟩
  case round =>
    obtain ⟨k, rfl, hk, hB, hK⟩ := hrel
    by_cases hlt : k < l.length
    · have hr := HR.out.same hK
      obtain ⟨g, rfl, _, hgl, q0, q1, q2, q3⟩ := hr.get hlt
      have hd : l.drop k = l[k] :: l.drop (k + 1) := List.drop_eq_getElem_cons hlt
      have HD : Hid (l.drop k = l[k] :: l.drop (k + 1)) := hd
      have htx := HT.out l[k] (List.getElem_mem hlt)
      obtain ⟨x, hx⟩ : ∃ x, x = l[k] := ⟨_, rfl⟩
      rw [← hx] at q0 q1 q2 q3 htx HD
      have d1 : (k : Int) < (l.length : Int) := by omega
      have hSr := HS.out.same hK
      have kA : Same0 wr (wr.alloc (.cells #[.int .i64 (x.t.kind : Int), .int .i64 (x.t.at' : Int), .string (txt x.t.text), .int .i64 (x.args : Int)] 116)) := Kept.alloc (Kept.refl _ wr) _
      clear hr hd hx
      by_cases h1 : x.t.kind = 1
      · have hn1 : ((x.t.kind : Int) == 1) = true := by rw [h1]; rfl
        obtain ⟨⟨sv, mr, hA, _⟩, hars⟩ := hSr.same kA
        have cF := find_any hA (txt x.t.text) (by rw [txt_size]; unfold maxLen; omega)
        cases hf : findI L (txt x.t.text) with
        | none =>
          have e1 : R = some (43, x.t.at') := by
            rw [← HRR.out, hB.out, HD.out, badName, if_pos h1]
            rw [show bsOf x.t.text = txt x.t.text from rfl, hf]
          rw [hf] at cF
          simp only [Option.getD_none, Option.isSome_none, Bool.false_eq_true, if_false] at cF
          clear HRR
          subst e1
          clear hA hf hB HD h1
          go_wp2_with (first | (go_at_call 56; refine cF.mono ?_; rintro e w' ⟨rfl, rfl⟩) | (go_at_call 49; refine (giveUp_any _ _ _).mono ?_; rintro e w' ⟨rfl, rfl⟩))
          exact ⟨rfl, ⟨_, rfl, by have := hK.size; go_size, alloc_at1 _ _ _⟩, Kept.alloc (Kept.alloc hK _) _⟩
        | some n =>
          have hnl := (findI_lt hf).1
          rw [hf] at cF
          simp only [Option.getD_some, Option.isSome_some, if_true] at cF
          have cA := at_yes hA n hnl
          have har := ar_of hars hnl
          by_cases ha : arN L (n : Int) = x.args
          · have e1 : badName L l = badName L (l.drop (k + 1)) := by
              rw [hB.out, HD.out, badName, if_pos h1]
              rw [show bsOf x.t.text = txt x.t.text from rfl, hf]
              simp only
              rw [if_pos ha]
            have HE : Hid (badName L l = badName L (l.drop (k + 1))) := e1
            have hq : (L[n].ar == (x.args : Int)) = true := by rw [← har, ha]; simp
            obtain ⟨ar, har2⟩ : ∃ ar, ar = L[n].ar := ⟨_, rfl⟩
            obtain ⟨nm, hnm⟩ : ∃ nm, nm = L[n].name := ⟨_, rfl⟩
            obtain ⟨df, hdf⟩ : ∃ df, df = L[n].df := ⟨_, rfl⟩
            rw [← har2] at cA hq; rw [← hnm, ← hdf] at cA
            clear e1 hA hf hB HD h1 ha har har2 hnm hdf
            go_wp2_with (first | (go_at_call 56; refine cF.mono ?_; rintro e w' ⟨rfl, rfl⟩) | (go_at_call 57; refine cA.mono ?_; rintro e w2 ⟨rfl, hk2⟩; have hlw := lt_of_at (hk2.at (heap_alloc_new wr _) (fun f => f)); have y3 := cellAt (hk2.at (heap_alloc_new wr _) (fun f => f)) 3; have y1 := cellAt (hk2.at (heap_alloc_new wr _) (fun f => f)) 1; simp only [List.getElem?_toArray, List.getElem?_cons_zero, List.getElem?_cons_succ] at y1 y3))
            go_roundw
            case rel => exact ⟨k + 1, by go_num, by omega, HE, Kept.alloc ((hK.trans' kA).trans' hk2) _⟩
            case measure => simp [intOf]; omega
          · have e1 : R = some (44, x.t.at') := by
              rw [← HRR.out, hB.out, HD.out, badName, if_pos h1]
              rw [show bsOf x.t.text = txt x.t.text from rfl, hf]
              simp only
              rw [if_neg ha]
            have hq : (L[n].ar == (x.args : Int)) = false := by rw [← har]; simp; omega
            obtain ⟨ar, har2⟩ : ∃ ar, ar = L[n].ar := ⟨_, rfl⟩
            obtain ⟨nm, hnm⟩ : ∃ nm, nm = L[n].name := ⟨_, rfl⟩
            obtain ⟨df, hdf⟩ : ∃ df, df = L[n].df := ⟨_, rfl⟩
            rw [← har2] at cA hq; rw [← hnm, ← hdf] at cA
            clear HRR
            subst e1
            clear hA hf hB HD h1 ha har har2 hnm hdf
            go_wp2_with (first | (go_at_call 56; refine cF.mono ?_; rintro e w' ⟨rfl, rfl⟩) | (go_at_call 57; refine cA.mono ?_; rintro e w2 ⟨rfl, hk2⟩; have hlw := lt_of_at (hk2.at (heap_alloc_new wr _) (fun f => f)); have y3 := cellAt (hk2.at (heap_alloc_new wr _) (fun f => f)) 3; have y1 := cellAt (hk2.at (heap_alloc_new wr _) (fun f => f)) 1; simp only [List.getElem?_toArray, List.getElem?_cons_zero, List.getElem?_cons_succ] at y1 y3) | (go_at_call 49; refine (giveUp_any _ _ _).mono ?_; rintro e w' ⟨rfl, rfl⟩))
            exact ⟨rfl, ⟨_, rfl, by have h1 := hK.size; have h2 := hk2.size; simp only [World.size_alloc] at h2; omega, alloc_at1 _ _ _⟩, Kept.alloc (Kept.alloc ((hK.trans' kA).trans' hk2) _) _⟩
      · have hn1 : ((x.t.kind : Int) == 1) = false := by simp; omega
        have e1 : badName L l = badName L (l.drop (k + 1)) := by rw [hB.out, HD.out, badName, if_neg h1]
        have HE : Hid (badName L l = badName L (l.drop (k + 1))) := e1
        clear e1 hB HD h1 hSr
        go_wp2_with fail
        go_roundw
        case rel => exact ⟨k + 1, by go_num, by omega, HE, hK.trans' kA⟩
        case measure => simp [intOf]; omega
    · obtain rfl : k = l.length := by omega
      have d1 : ¬ ((l.length : Int) < (l.length : Int)) := by omega
      have e1 : R = none := by rw [← HRR.out, hB.out, List.drop_length]; rfl
      clear HRR
      subst e1
      clear hB
      go_wp2_with fail
      go_end0
      exact ⟨rfl, hK⟩
end Go.Proofs.YtbjfpfnfbgncnaaGreatDoor
