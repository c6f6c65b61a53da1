import Derived.Test.YtnieajfofbidmaaE25

namespace Go.Proofs.Ytnieajfofbidmaa
open Go.RowKit

theorem bad_facts {f s d a b D : Int} (h : eqaE f s d a = D) (hD : ¬ D = 0) : stbE f s d a = D ∧ stbN f s d a = 0 ∧ ckbE f s d a b = D := by
  have h1 : stbE f s d a = D := by unfold stbE; rw [h, if_neg hD]
  refine ⟨h1, ?_, ?_⟩
  · unfold stbN; rw [h1, if_neg hD]
  · have h2 : chbE f s d a b = D := by
      rw [← h]
      unfold chbE eqaE
      by_cases e1 : eqzE f s d = 0
      · by_cases e2 : ampE a = 0
        · exfalso; apply hD; rw [← h]; simp [eqaE, firstNZ, e1, e2]
        · simp [firstNZ, e1, e2]
      · simp [firstNZ, e1]
    unfold ckbE; rw [h2, if_neg hD]
theorem eqaE_one {f s d a : Int} (h : ¬ eqzE f s d = 0) : eqaE f s d a = eqzE f s d := by simp [eqaE, firstNZ, h]
theorem eqaE_two {f s d a : Int} (h : eqzE f s d = 0) : eqaE f s d a = ampE a := by
  by_cases h2 : ampE a = 0 <;> simp [eqaE, firstNZ, h, h2]
theorem good_stb {f s d a : Int} (h : eqaE f s d a = 0) : stbE f s d a = (if d - strF f s ≤ 0 then 22 else 0) ∧ stbN f s d a = (if d - strF f s ≤ 0 then 0 else upF (a * d) (d - strF f s)) := by
  have h1 : stbE f s d a = (if d - strF f s ≤ 0 then 22 else 0) := by unfold stbE; rw [if_pos h]
  refine ⟨h1, ?_⟩
  unfold stbN
  rw [h1]
  by_cases h2 : d - strF f s ≤ 0 <;> simp [h2]
theorem good_ckb {f s d a b : Int} (h : eqaE f s d a = 0) : ckbE f s d a b = if fromB 0 1000000000000000 [b] = true then (if isB f s d a b = true then 0 else 19) else 2 := by
  have h0 := h
  have hz := eqaE_zero h
  have e1 : eqzE f s d = 0 := firstNZ_zero h (eqzE f s d) (by simp)
  have e2 : ampE a = 0 := firstNZ_zero h (ampE a) (by simp)
  have h2 : chbE f s d a b = if fromB 0 1000000000000000 [b] = true then 0 else 2 := by
    unfold chbE bndE rngE
    by_cases h3 : fromB 0 1000000000000000 [b] = true <;> simp [firstNZ, e1, e2, h3]
  unfold ckbE
  rw [h2]
  by_cases h3 : fromB 0 1000000000000000 [b] = true
  · rw [if_pos h3, if_pos h3, if_pos rfl]
  · rw [if_neg h3, if_neg h3, if_neg (by omega)]

set_option maxRecDepth 100000 in
set_option maxHeartbeats 4000000 in
theorem bounds_A (f s d a b : Int) (w : World) (h1 : ¬ eqzE f s d = 0) : Calls Try.prog 3 #[.agg #[.int .i64 f, .int .i64 s, .int .i64 d], .int .i64 a, .int .i64 b] w fun e w' => e = .returned (.bool true) ∧ Below w.heap.size w w' := by
  have hf := bad_facts (b := b) (eqaE_one (a := a) h1) h1
  have CSb : Hid (∀ w, _) := Lib.hid (fun w => StableBound_any f s d a w)
  have CCb : Hid (∀ w, _) := Lib.hid (fun w => CheckBound_any f s d a b w)
  have CE : Hid (∀ w, _) := Lib.hid (fun w => refEqualizerErr_any f s d w)
  rw [hf.1, hf.2.1] at CSb
  rw [hf.2.2] at CCb
  clear hf
  obtain ⟨D, hD⟩ : ∃ D, eqzE f s d = D := ⟨_, rfl⟩
  rw [hD] at h1 CSb CCb CE
  clear hD
  have K0 := Lib.hid (Bk.new w 23 #[.int .i64 f, .int .i64 s, .int .i64 d])
  have B0 := Lib.hid (below1 w (.cells #[.int .i64 f, .int .i64 s, .int .i64 d] 23))
  go_enter Try.func3, Try.ntmps3
  go_wp2_with fail
  refine (awake_any _).mono ?_
  rintro e w1 ⟨rfl, hb⟩
  have K1 := Lib.hid (K0.out.later hb)
  have B1 := Lib.hid (B0.out.trans (hb.mono B0.out.size))
  clear hb K0 B0
  obtain ⟨d0, d1, d2⟩ := bk3 K1.out
  go_wp2_with fail
  refine (CSb.out _).mono ?_
  rintro e w2 ⟨rfl, hb⟩
  have K2 := Lib.hid (K1.out.later hb)
  have B2 := Lib.hid (B1.out.trans (hb.mono B1.out.size))
  clear hb K1 B1
  obtain ⟨d0, d1, d2⟩ := bk3 K2.out
  go_wp2_with fail
  refine (CCb.out _).mono ?_
  rintro e w3 ⟨rfl, hb⟩
  have K3 := Lib.hid (K2.out.later hb)
  have B3 := Lib.hid (B2.out.trans (hb.mono B2.out.size))
  clear hb K2 B2
  obtain ⟨d0, d1, d2⟩ := bk3 K3.out
  go_wp2_with fail
  refine (CE.out _).mono ?_
  rintro e w4 ⟨rfl, hb⟩
  have K4 := Lib.hid (K3.out.later hb)
  have B4 := Lib.hid (B3.out.trans (hb.mono B3.out.size))
  clear hb K3 B3
  obtain ⟨d0, d1, d2⟩ := bk3 K4.out
  go_wp2
  go_ret
  exact ⟨by simp, B4.out⟩

set_option maxRecDepth 100000 in
set_option maxHeartbeats 4000000 in
theorem bounds_B (f s d a b : Int) (w : World) (h0 : eqzE f s d = 0) (h1 : ¬ ampE a = 0) : Calls Try.prog 3 #[.agg #[.int .i64 f, .int .i64 s, .int .i64 d], .int .i64 a, .int .i64 b] w fun e w' => e = .returned (.bool true) ∧ Below w.heap.size w w' := by
  have hf := bad_facts (b := b) (eqaE_two (a := a) h0) h1
  have CSb : Hid (∀ w, _) := Lib.hid (fun w => StableBound_any f s d a w)
  have CCb : Hid (∀ w, _) := Lib.hid (fun w => CheckBound_any f s d a b w)
  have CE : Hid (∀ w, _) := Lib.hid (fun w => refEqualizerErr_any f s d w)
  have CA : Hid (∀ w, _) := Lib.hid (fun w => refAmplitudeErr_any a w)
  rw [hf.1, hf.2.1] at CSb
  rw [hf.2.2] at CCb
  rw [h0] at CE
  clear hf h0
  obtain ⟨D, hD⟩ : ∃ D, ampE a = D := ⟨_, rfl⟩
  rw [hD] at h1 CSb CCb CA
  clear hD
  have K0 := Lib.hid (Bk.new w 23 #[.int .i64 f, .int .i64 s, .int .i64 d])
  have B0 := Lib.hid (below1 w (.cells #[.int .i64 f, .int .i64 s, .int .i64 d] 23))
  go_enter Try.func3, Try.ntmps3
  go_wp2_with fail
  refine (awake_any _).mono ?_
  rintro e w1 ⟨rfl, hb⟩
  have K1 := Lib.hid (K0.out.later hb)
  have B1 := Lib.hid (B0.out.trans (hb.mono B0.out.size))
  clear hb K0 B0
  obtain ⟨d0, d1, d2⟩ := bk3 K1.out
  go_wp2_with fail
  refine (CSb.out _).mono ?_
  rintro e w2 ⟨rfl, hb⟩
  have K2 := Lib.hid (K1.out.later hb)
  have B2 := Lib.hid (B1.out.trans (hb.mono B1.out.size))
  clear hb K1 B1
  obtain ⟨d0, d1, d2⟩ := bk3 K2.out
  go_wp2_with fail
  refine (CCb.out _).mono ?_
  rintro e w3 ⟨rfl, hb⟩
  have K3 := Lib.hid (K2.out.later hb)
  have B3 := Lib.hid (B2.out.trans (hb.mono B2.out.size))
  clear hb K2 B2
  obtain ⟨d0, d1, d2⟩ := bk3 K3.out
  go_wp2_with fail
  refine (CE.out _).mono ?_
  rintro e w4 ⟨rfl, hb⟩
  have K4 := Lib.hid (K3.out.later hb)
  have B4 := Lib.hid (B3.out.trans (hb.mono B3.out.size))
  clear hb K3 B3
  obtain ⟨d0, d1, d2⟩ := bk3 K4.out
  go_wp2_with fail
  refine (CA.out _).mono ?_
  rintro e w' ⟨rfl, rfl⟩
  go_wp2
  go_ret
  exact ⟨by simp, B4.out⟩

set_option maxRecDepth 100000 in
set_option maxHeartbeats 4000000 in
theorem bounds_ff0 (f s d a b : Int) (w : World) (h0 : eqzE f s d = 0) (h1 : ampE a = 0) (hw : fromB 0 1000000000000000 [b] = false) (hl : ¬ d - strF f s ≤ 0) : Calls Try.prog 3 #[.agg #[.int .i64 f, .int .i64 s, .int .i64 d], .int .i64 a, .int .i64 b] w fun e w' => e = .returned (.bool true) ∧ Below w.heap.size w w' := by
  have hq : eqaE f s d a = 0 := by rw [eqaE_two h0]; exact h1
  have hz := eqaE_zero hq
  have hs := good_stb hq
  have hc := good_ckb (b := b) hq
  have CSb : Hid (∀ w, _) := Lib.hid (fun w => StableBound_any f s d a w)
  have CCb : Hid (∀ w, _) := Lib.hid (fun w => CheckBound_any f s d a b w)
  have CE : Hid (∀ w, _) := Lib.hid (fun w => refEqualizerErr_any f s d w)
  have CA : Hid (∀ w, _) := Lib.hid (fun w => refAmplitudeErr_any a w)
  have CW : Hid (∀ w, _) := Lib.hid (fun w => within_any b 0 1000000000000000 w)
  have CR : Hid (∀ w, _) := Lib.hid (fun w => refStableBound_any f s d a w ⟨hz.1, hz.2.1, hz.2.2.1, hz.2.2.2⟩)
  rw [hs.1, hs.2, if_neg hl, if_neg hl] at CSb
  rw [hc, hw, if_neg (by simp)] at CCb
  rw [h0] at CE
  rw [h1] at CA
  rw [hw] at CW
  rw [if_neg hl, decide_eq_false hl] at CR
  clear hs hc hq hz h0 h1 hw hl 
  obtain ⟨u, hu⟩ : ∃ u, upF (a * d) (d - strF f s) = u := ⟨_, rfl⟩
  rw [hu] at CSb CR
  clear hu
  have K0 := Lib.hid (Bk.new w 23 #[.int .i64 f, .int .i64 s, .int .i64 d])
  have B0 := Lib.hid (below1 w (.cells #[.int .i64 f, .int .i64 s, .int .i64 d] 23))
  go_enter Try.func3, Try.ntmps3
  go_wp2_with fail
  refine (awake_any _).mono ?_
  rintro e w1 ⟨rfl, hb⟩
  have K1 := Lib.hid (K0.out.later hb)
  have B1 := Lib.hid (B0.out.trans (hb.mono B0.out.size))
  clear hb K0 B0
  obtain ⟨d0, d1, d2⟩ := bk3 K1.out
  go_wp2_with fail
  refine (CSb.out _).mono ?_
  rintro e w2 ⟨rfl, hb⟩
  have K2 := Lib.hid (K1.out.later hb)
  have B2 := Lib.hid (B1.out.trans (hb.mono B1.out.size))
  clear hb K1 B1
  obtain ⟨d0, d1, d2⟩ := bk3 K2.out
  go_wp2_with fail
  refine (CCb.out _).mono ?_
  rintro e w3 ⟨rfl, hb⟩
  have K3 := Lib.hid (K2.out.later hb)
  have B3 := Lib.hid (B2.out.trans (hb.mono B2.out.size))
  clear hb K2 B2
  obtain ⟨d0, d1, d2⟩ := bk3 K3.out
  go_wp2_with fail
  refine (CE.out _).mono ?_
  rintro e w4 ⟨rfl, hb⟩
  have K4 := Lib.hid (K3.out.later hb)
  have B4 := Lib.hid (B3.out.trans (hb.mono B3.out.size))
  clear hb K3 B3
  obtain ⟨d0, d1, d2⟩ := bk3 K4.out
  go_wp2_with fail
  refine (CA.out _).mono ?_
  rintro e w' ⟨rfl, rfl⟩
  go_wp2_with fail
  refine (CW.out _).mono ?_
  rintro e w' ⟨rfl, rfl⟩
  go_wp2_with fail
  refine (CR.out _).mono ?_
  rintro e w5 ⟨rfl, hb⟩
  have K5 := Lib.hid (K4.out.later hb)
  have B5 := Lib.hid (B4.out.trans (hb.mono B4.out.size))
  clear hb K4 B4
  obtain ⟨d0, d1, d2⟩ := bk3 K5.out
  go_wp2
  go_ret
  exact ⟨by simp, B5.out⟩

set_option maxRecDepth 100000 in
set_option maxHeartbeats 4000000 in
theorem bounds_ff1 (f s d a b : Int) (w : World) (h0 : eqzE f s d = 0) (h1 : ampE a = 0) (hw : fromB 0 1000000000000000 [b] = false) (hl : d - strF f s ≤ 0) : Calls Try.prog 3 #[.agg #[.int .i64 f, .int .i64 s, .int .i64 d], .int .i64 a, .int .i64 b] w fun e w' => e = .returned (.bool true) ∧ Below w.heap.size w w' := by
  have hq : eqaE f s d a = 0 := by rw [eqaE_two h0]; exact h1
  have hz := eqaE_zero hq
  have hs := good_stb hq
  have hc := good_ckb (b := b) hq
  have CSb : Hid (∀ w, _) := Lib.hid (fun w => StableBound_any f s d a w)
  have CCb : Hid (∀ w, _) := Lib.hid (fun w => CheckBound_any f s d a b w)
  have CE : Hid (∀ w, _) := Lib.hid (fun w => refEqualizerErr_any f s d w)
  have CA : Hid (∀ w, _) := Lib.hid (fun w => refAmplitudeErr_any a w)
  have CW : Hid (∀ w, _) := Lib.hid (fun w => within_any b 0 1000000000000000 w)
  have CR : Hid (∀ w, _) := Lib.hid (fun w => refStableBound_any f s d a w ⟨hz.1, hz.2.1, hz.2.2.1, hz.2.2.2⟩)
  rw [hs.1, hs.2, if_pos hl, if_pos hl] at CSb
  rw [hc, hw, if_neg (by simp)] at CCb
  rw [h0] at CE
  rw [h1] at CA
  rw [hw] at CW
  rw [if_pos hl, decide_eq_true hl] at CR
  clear hs hc hq hz h0 h1 hw hl 
  have K0 := Lib.hid (Bk.new w 23 #[.int .i64 f, .int .i64 s, .int .i64 d])
  have B0 := Lib.hid (below1 w (.cells #[.int .i64 f, .int .i64 s, .int .i64 d] 23))
  go_enter Try.func3, Try.ntmps3
  go_wp2_with fail
  refine (awake_any _).mono ?_
  rintro e w1 ⟨rfl, hb⟩
  have K1 := Lib.hid (K0.out.later hb)
  have B1 := Lib.hid (B0.out.trans (hb.mono B0.out.size))
  clear hb K0 B0
  obtain ⟨d0, d1, d2⟩ := bk3 K1.out
  go_wp2_with fail
  refine (CSb.out _).mono ?_
  rintro e w2 ⟨rfl, hb⟩
  have K2 := Lib.hid (K1.out.later hb)
  have B2 := Lib.hid (B1.out.trans (hb.mono B1.out.size))
  clear hb K1 B1
  obtain ⟨d0, d1, d2⟩ := bk3 K2.out
  go_wp2_with fail
  refine (CCb.out _).mono ?_
  rintro e w3 ⟨rfl, hb⟩
  have K3 := Lib.hid (K2.out.later hb)
  have B3 := Lib.hid (B2.out.trans (hb.mono B2.out.size))
  clear hb K2 B2
  obtain ⟨d0, d1, d2⟩ := bk3 K3.out
  go_wp2_with fail
  refine (CE.out _).mono ?_
  rintro e w4 ⟨rfl, hb⟩
  have K4 := Lib.hid (K3.out.later hb)
  have B4 := Lib.hid (B3.out.trans (hb.mono B3.out.size))
  clear hb K3 B3
  obtain ⟨d0, d1, d2⟩ := bk3 K4.out
  go_wp2_with fail
  refine (CA.out _).mono ?_
  rintro e w' ⟨rfl, rfl⟩
  go_wp2_with fail
  refine (CW.out _).mono ?_
  rintro e w' ⟨rfl, rfl⟩
  go_wp2_with fail
  refine (CR.out _).mono ?_
  rintro e w5 ⟨rfl, hb⟩
  have K5 := Lib.hid (K4.out.later hb)
  have B5 := Lib.hid (B4.out.trans (hb.mono B4.out.size))
  clear hb K4 B4
  obtain ⟨d0, d1, d2⟩ := bk3 K5.out
  go_wp2
  go_ret
  exact ⟨by simp, B5.out⟩

set_option maxRecDepth 100000 in
set_option maxHeartbeats 4000000 in
theorem bounds_tf0 (f s d a b : Int) (w : World) (h0 : eqzE f s d = 0) (h1 : ampE a = 0) (hw : fromB 0 1000000000000000 [b] = true) (hi : isB f s d a b = false) (hl : ¬ d - strF f s ≤ 0) : Calls Try.prog 3 #[.agg #[.int .i64 f, .int .i64 s, .int .i64 d], .int .i64 a, .int .i64 b] w fun e w' => e = .returned (.bool true) ∧ Below w.heap.size w w' := by
  have hq : eqaE f s d a = 0 := by rw [eqaE_two h0]; exact h1
  have hz := eqaE_zero hq
  have hs := good_stb hq
  have hc := good_ckb (b := b) hq
  have CSb : Hid (∀ w, _) := Lib.hid (fun w => StableBound_any f s d a w)
  have CCb : Hid (∀ w, _) := Lib.hid (fun w => CheckBound_any f s d a b w)
  have CE : Hid (∀ w, _) := Lib.hid (fun w => refEqualizerErr_any f s d w)
  have CA : Hid (∀ w, _) := Lib.hid (fun w => refAmplitudeErr_any a w)
  have CW : Hid (∀ w, _) := Lib.hid (fun w => within_any b 0 1000000000000000 w)
  have CR : Hid (∀ w, _) := Lib.hid (fun w => refStableBound_any f s d a w ⟨hz.1, hz.2.1, hz.2.2.1, hz.2.2.2⟩)
  have hbb : 0 ≤ b ∧ b ≤ 1000000000000000 := by rw [fromB_one] at hw; exact of_decide_eq_true hw
  have CI : Hid (∀ w, _) := Lib.hid (fun w => refIsBound_any f s d a b w ⟨hz.1, hz.2.1, hz.2.2.1, hz.2.2.2, hbb⟩)
  rw [hi] at CI
  rw [hs.1, hs.2, if_neg hl, if_neg hl] at CSb
  rw [hc, hw, if_pos rfl, hi, if_neg (by simp)] at CCb
  rw [h0] at CE
  rw [h1] at CA
  rw [hw] at CW
  rw [if_neg hl, decide_eq_false hl] at CR
  clear hs hc hq hz h0 h1 hw hl hi hbb
  obtain ⟨u, hu⟩ : ∃ u, upF (a * d) (d - strF f s) = u := ⟨_, rfl⟩
  rw [hu] at CSb CR
  clear hu
  have K0 := Lib.hid (Bk.new w 23 #[.int .i64 f, .int .i64 s, .int .i64 d])
  have B0 := Lib.hid (below1 w (.cells #[.int .i64 f, .int .i64 s, .int .i64 d] 23))
  go_enter Try.func3, Try.ntmps3
  go_wp2_with fail
  refine (awake_any _).mono ?_
  rintro e w1 ⟨rfl, hb⟩
  have K1 := Lib.hid (K0.out.later hb)
  have B1 := Lib.hid (B0.out.trans (hb.mono B0.out.size))
  clear hb K0 B0
  obtain ⟨d0, d1, d2⟩ := bk3 K1.out
  go_wp2_with fail
  refine (CSb.out _).mono ?_
  rintro e w2 ⟨rfl, hb⟩
  have K2 := Lib.hid (K1.out.later hb)
  have B2 := Lib.hid (B1.out.trans (hb.mono B1.out.size))
  clear hb K1 B1
  obtain ⟨d0, d1, d2⟩ := bk3 K2.out
  go_wp2_with fail
  refine (CCb.out _).mono ?_
  rintro e w3 ⟨rfl, hb⟩
  have K3 := Lib.hid (K2.out.later hb)
  have B3 := Lib.hid (B2.out.trans (hb.mono B2.out.size))
  clear hb K2 B2
  obtain ⟨d0, d1, d2⟩ := bk3 K3.out
  go_wp2_with fail
  refine (CE.out _).mono ?_
  rintro e w4 ⟨rfl, hb⟩
  have K4 := Lib.hid (K3.out.later hb)
  have B4 := Lib.hid (B3.out.trans (hb.mono B3.out.size))
  clear hb K3 B3
  obtain ⟨d0, d1, d2⟩ := bk3 K4.out
  go_wp2_with fail
  refine (CA.out _).mono ?_
  rintro e w' ⟨rfl, rfl⟩
  go_wp2_with fail
  refine (CW.out _).mono ?_
  rintro e w' ⟨rfl, rfl⟩
  go_wp2_with fail
  refine (CI.out _).mono ?_
  rintro e w5 ⟨rfl, hb⟩
  have K5 := Lib.hid (K4.out.later hb)
  have B5 := Lib.hid (B4.out.trans (hb.mono B4.out.size))
  clear hb K4 B4
  obtain ⟨d0, d1, d2⟩ := bk3 K5.out
  go_wp2_with fail
  refine (CR.out _).mono ?_
  rintro e w6 ⟨rfl, hb⟩
  have K6 := Lib.hid (K5.out.later hb)
  have B6 := Lib.hid (B5.out.trans (hb.mono B5.out.size))
  clear hb K5 B5
  obtain ⟨d0, d1, d2⟩ := bk3 K6.out
  go_wp2
  go_ret
  exact ⟨by simp, B6.out⟩

set_option maxRecDepth 100000 in
set_option maxHeartbeats 4000000 in
theorem bounds_tf1 (f s d a b : Int) (w : World) (h0 : eqzE f s d = 0) (h1 : ampE a = 0) (hw : fromB 0 1000000000000000 [b] = true) (hi : isB f s d a b = false) (hl : d - strF f s ≤ 0) : Calls Try.prog 3 #[.agg #[.int .i64 f, .int .i64 s, .int .i64 d], .int .i64 a, .int .i64 b] w fun e w' => e = .returned (.bool true) ∧ Below w.heap.size w w' := by
  have hq : eqaE f s d a = 0 := by rw [eqaE_two h0]; exact h1
  have hz := eqaE_zero hq
  have hs := good_stb hq
  have hc := good_ckb (b := b) hq
  have CSb : Hid (∀ w, _) := Lib.hid (fun w => StableBound_any f s d a w)
  have CCb : Hid (∀ w, _) := Lib.hid (fun w => CheckBound_any f s d a b w)
  have CE : Hid (∀ w, _) := Lib.hid (fun w => refEqualizerErr_any f s d w)
  have CA : Hid (∀ w, _) := Lib.hid (fun w => refAmplitudeErr_any a w)
  have CW : Hid (∀ w, _) := Lib.hid (fun w => within_any b 0 1000000000000000 w)
  have CR : Hid (∀ w, _) := Lib.hid (fun w => refStableBound_any f s d a w ⟨hz.1, hz.2.1, hz.2.2.1, hz.2.2.2⟩)
  have hbb : 0 ≤ b ∧ b ≤ 1000000000000000 := by rw [fromB_one] at hw; exact of_decide_eq_true hw
  have CI : Hid (∀ w, _) := Lib.hid (fun w => refIsBound_any f s d a b w ⟨hz.1, hz.2.1, hz.2.2.1, hz.2.2.2, hbb⟩)
  rw [hi] at CI
  rw [hs.1, hs.2, if_pos hl, if_pos hl] at CSb
  rw [hc, hw, if_pos rfl, hi, if_neg (by simp)] at CCb
  rw [h0] at CE
  rw [h1] at CA
  rw [hw] at CW
  rw [if_pos hl, decide_eq_true hl] at CR
  clear hs hc hq hz h0 h1 hw hl hi hbb
  have K0 := Lib.hid (Bk.new w 23 #[.int .i64 f, .int .i64 s, .int .i64 d])
  have B0 := Lib.hid (below1 w (.cells #[.int .i64 f, .int .i64 s, .int .i64 d] 23))
  go_enter Try.func3, Try.ntmps3
  go_wp2_with fail
  refine (awake_any _).mono ?_
  rintro e w1 ⟨rfl, hb⟩
  have K1 := Lib.hid (K0.out.later hb)
  have B1 := Lib.hid (B0.out.trans (hb.mono B0.out.size))
  clear hb K0 B0
  obtain ⟨d0, d1, d2⟩ := bk3 K1.out
  go_wp2_with fail
  refine (CSb.out _).mono ?_
  rintro e w2 ⟨rfl, hb⟩
  have K2 := Lib.hid (K1.out.later hb)
  have B2 := Lib.hid (B1.out.trans (hb.mono B1.out.size))
  clear hb K1 B1
  obtain ⟨d0, d1, d2⟩ := bk3 K2.out
  go_wp2_with fail
  refine (CCb.out _).mono ?_
  rintro e w3 ⟨rfl, hb⟩
  have K3 := Lib.hid (K2.out.later hb)
  have B3 := Lib.hid (B2.out.trans (hb.mono B2.out.size))
  clear hb K2 B2
  obtain ⟨d0, d1, d2⟩ := bk3 K3.out
  go_wp2_with fail
  refine (CE.out _).mono ?_
  rintro e w4 ⟨rfl, hb⟩
  have K4 := Lib.hid (K3.out.later hb)
  have B4 := Lib.hid (B3.out.trans (hb.mono B3.out.size))
  clear hb K3 B3
  obtain ⟨d0, d1, d2⟩ := bk3 K4.out
  go_wp2_with fail
  refine (CA.out _).mono ?_
  rintro e w' ⟨rfl, rfl⟩
  go_wp2_with fail
  refine (CW.out _).mono ?_
  rintro e w' ⟨rfl, rfl⟩
  go_wp2_with fail
  refine (CI.out _).mono ?_
  rintro e w5 ⟨rfl, hb⟩
  have K5 := Lib.hid (K4.out.later hb)
  have B5 := Lib.hid (B4.out.trans (hb.mono B4.out.size))
  clear hb K4 B4
  obtain ⟨d0, d1, d2⟩ := bk3 K5.out
  go_wp2_with fail
  refine (CR.out _).mono ?_
  rintro e w6 ⟨rfl, hb⟩
  have K6 := Lib.hid (K5.out.later hb)
  have B6 := Lib.hid (B5.out.trans (hb.mono B5.out.size))
  clear hb K5 B5
  obtain ⟨d0, d1, d2⟩ := bk3 K6.out
  go_wp2
  go_ret
  exact ⟨by simp, B6.out⟩

set_option maxRecDepth 100000 in
set_option maxHeartbeats 4000000 in
theorem bounds_tt0 (f s d a b : Int) (w : World) (h0 : eqzE f s d = 0) (h1 : ampE a = 0) (hw : fromB 0 1000000000000000 [b] = true) (hi : isB f s d a b = true) (hl : ¬ d - strF f s ≤ 0) : Calls Try.prog 3 #[.agg #[.int .i64 f, .int .i64 s, .int .i64 d], .int .i64 a, .int .i64 b] w fun e w' => e = .returned (.bool true) ∧ Below w.heap.size w w' := by
  have hq : eqaE f s d a = 0 := by rw [eqaE_two h0]; exact h1
  have hz := eqaE_zero hq
  have hs := good_stb hq
  have hc := good_ckb (b := b) hq
  have CSb : Hid (∀ w, _) := Lib.hid (fun w => StableBound_any f s d a w)
  have CCb : Hid (∀ w, _) := Lib.hid (fun w => CheckBound_any f s d a b w)
  have CE : Hid (∀ w, _) := Lib.hid (fun w => refEqualizerErr_any f s d w)
  have CA : Hid (∀ w, _) := Lib.hid (fun w => refAmplitudeErr_any a w)
  have CW : Hid (∀ w, _) := Lib.hid (fun w => within_any b 0 1000000000000000 w)
  have CR : Hid (∀ w, _) := Lib.hid (fun w => refStableBound_any f s d a w ⟨hz.1, hz.2.1, hz.2.2.1, hz.2.2.2⟩)
  have hbb : 0 ≤ b ∧ b ≤ 1000000000000000 := by rw [fromB_one] at hw; exact of_decide_eq_true hw
  have CI : Hid (∀ w, _) := Lib.hid (fun w => refIsBound_any f s d a b w ⟨hz.1, hz.2.1, hz.2.2.1, hz.2.2.2, hbb⟩)
  rw [hi] at CI
  rw [hs.1, hs.2, if_neg hl, if_neg hl] at CSb
  rw [hc, hw, if_pos rfl, hi, if_pos rfl] at CCb
  rw [h0] at CE
  rw [h1] at CA
  rw [hw] at CW
  rw [if_neg hl, decide_eq_false hl] at CR
  clear hs hc hq hz h0 h1 hw hl hi hbb
  obtain ⟨u, hu⟩ : ∃ u, upF (a * d) (d - strF f s) = u := ⟨_, rfl⟩
  rw [hu] at CSb CR
  clear hu
  have K0 := Lib.hid (Bk.new w 23 #[.int .i64 f, .int .i64 s, .int .i64 d])
  have B0 := Lib.hid (below1 w (.cells #[.int .i64 f, .int .i64 s, .int .i64 d] 23))
  go_enter Try.func3, Try.ntmps3
  go_wp2_with fail
  refine (awake_any _).mono ?_
  rintro e w1 ⟨rfl, hb⟩
  have K1 := Lib.hid (K0.out.later hb)
  have B1 := Lib.hid (B0.out.trans (hb.mono B0.out.size))
  clear hb K0 B0
  obtain ⟨d0, d1, d2⟩ := bk3 K1.out
  go_wp2_with fail
  refine (CSb.out _).mono ?_
  rintro e w2 ⟨rfl, hb⟩
  have K2 := Lib.hid (K1.out.later hb)
  have B2 := Lib.hid (B1.out.trans (hb.mono B1.out.size))
  clear hb K1 B1
  obtain ⟨d0, d1, d2⟩ := bk3 K2.out
  go_wp2_with fail
  refine (CCb.out _).mono ?_
  rintro e w3 ⟨rfl, hb⟩
  have K3 := Lib.hid (K2.out.later hb)
  have B3 := Lib.hid (B2.out.trans (hb.mono B2.out.size))
  clear hb K2 B2
  obtain ⟨d0, d1, d2⟩ := bk3 K3.out
  go_wp2_with fail
  refine (CE.out _).mono ?_
  rintro e w4 ⟨rfl, hb⟩
  have K4 := Lib.hid (K3.out.later hb)
  have B4 := Lib.hid (B3.out.trans (hb.mono B3.out.size))
  clear hb K3 B3
  obtain ⟨d0, d1, d2⟩ := bk3 K4.out
  go_wp2_with fail
  refine (CA.out _).mono ?_
  rintro e w' ⟨rfl, rfl⟩
  go_wp2_with fail
  refine (CW.out _).mono ?_
  rintro e w' ⟨rfl, rfl⟩
  go_wp2_with fail
  refine (CI.out _).mono ?_
  rintro e w5 ⟨rfl, hb⟩
  have K5 := Lib.hid (K4.out.later hb)
  have B5 := Lib.hid (B4.out.trans (hb.mono B4.out.size))
  clear hb K4 B4
  obtain ⟨d0, d1, d2⟩ := bk3 K5.out
  go_wp2_with fail
  refine (CR.out _).mono ?_
  rintro e w6 ⟨rfl, hb⟩
  have K6 := Lib.hid (K5.out.later hb)
  have B6 := Lib.hid (B5.out.trans (hb.mono B5.out.size))
  clear hb K5 B5
  obtain ⟨d0, d1, d2⟩ := bk3 K6.out
  go_wp2
  go_ret
  exact ⟨by simp, B6.out⟩

set_option maxRecDepth 100000 in
set_option maxHeartbeats 4000000 in
theorem bounds_tt1 (f s d a b : Int) (w : World) (h0 : eqzE f s d = 0) (h1 : ampE a = 0) (hw : fromB 0 1000000000000000 [b] = true) (hi : isB f s d a b = true) (hl : d - strF f s ≤ 0) : Calls Try.prog 3 #[.agg #[.int .i64 f, .int .i64 s, .int .i64 d], .int .i64 a, .int .i64 b] w fun e w' => e = .returned (.bool true) ∧ Below w.heap.size w w' := by
  have hq : eqaE f s d a = 0 := by rw [eqaE_two h0]; exact h1
  have hz := eqaE_zero hq
  have hs := good_stb hq
  have hc := good_ckb (b := b) hq
  have CSb : Hid (∀ w, _) := Lib.hid (fun w => StableBound_any f s d a w)
  have CCb : Hid (∀ w, _) := Lib.hid (fun w => CheckBound_any f s d a b w)
  have CE : Hid (∀ w, _) := Lib.hid (fun w => refEqualizerErr_any f s d w)
  have CA : Hid (∀ w, _) := Lib.hid (fun w => refAmplitudeErr_any a w)
  have CW : Hid (∀ w, _) := Lib.hid (fun w => within_any b 0 1000000000000000 w)
  have CR : Hid (∀ w, _) := Lib.hid (fun w => refStableBound_any f s d a w ⟨hz.1, hz.2.1, hz.2.2.1, hz.2.2.2⟩)
  have hbb : 0 ≤ b ∧ b ≤ 1000000000000000 := by rw [fromB_one] at hw; exact of_decide_eq_true hw
  have CI : Hid (∀ w, _) := Lib.hid (fun w => refIsBound_any f s d a b w ⟨hz.1, hz.2.1, hz.2.2.1, hz.2.2.2, hbb⟩)
  rw [hi] at CI
  rw [hs.1, hs.2, if_pos hl, if_pos hl] at CSb
  rw [hc, hw, if_pos rfl, hi, if_pos rfl] at CCb
  rw [h0] at CE
  rw [h1] at CA
  rw [hw] at CW
  rw [if_pos hl, decide_eq_true hl] at CR
  clear hs hc hq hz h0 h1 hw hl hi hbb
  have K0 := Lib.hid (Bk.new w 23 #[.int .i64 f, .int .i64 s, .int .i64 d])
  have B0 := Lib.hid (below1 w (.cells #[.int .i64 f, .int .i64 s, .int .i64 d] 23))
  go_enter Try.func3, Try.ntmps3
  go_wp2_with fail
  refine (awake_any _).mono ?_
  rintro e w1 ⟨rfl, hb⟩
  have K1 := Lib.hid (K0.out.later hb)
  have B1 := Lib.hid (B0.out.trans (hb.mono B0.out.size))
  clear hb K0 B0
  obtain ⟨d0, d1, d2⟩ := bk3 K1.out
  go_wp2_with fail
  refine (CSb.out _).mono ?_
  rintro e w2 ⟨rfl, hb⟩
  have K2 := Lib.hid (K1.out.later hb)
  have B2 := Lib.hid (B1.out.trans (hb.mono B1.out.size))
  clear hb K1 B1
  obtain ⟨d0, d1, d2⟩ := bk3 K2.out
  go_wp2_with fail
  refine (CCb.out _).mono ?_
  rintro e w3 ⟨rfl, hb⟩
  have K3 := Lib.hid (K2.out.later hb)
  have B3 := Lib.hid (B2.out.trans (hb.mono B2.out.size))
  clear hb K2 B2
  obtain ⟨d0, d1, d2⟩ := bk3 K3.out
  go_wp2_with fail
  refine (CE.out _).mono ?_
  rintro e w4 ⟨rfl, hb⟩
  have K4 := Lib.hid (K3.out.later hb)
  have B4 := Lib.hid (B3.out.trans (hb.mono B3.out.size))
  clear hb K3 B3
  obtain ⟨d0, d1, d2⟩ := bk3 K4.out
  go_wp2_with fail
  refine (CA.out _).mono ?_
  rintro e w' ⟨rfl, rfl⟩
  go_wp2_with fail
  refine (CW.out _).mono ?_
  rintro e w' ⟨rfl, rfl⟩
  go_wp2_with fail
  refine (CI.out _).mono ?_
  rintro e w5 ⟨rfl, hb⟩
  have K5 := Lib.hid (K4.out.later hb)
  have B5 := Lib.hid (B4.out.trans (hb.mono B4.out.size))
  clear hb K4 B4
  obtain ⟨d0, d1, d2⟩ := bk3 K5.out
  go_wp2_with fail
  refine (CR.out _).mono ?_
  rintro e w6 ⟨rfl, hb⟩
  have K6 := Lib.hid (K5.out.later hb)
  have B6 := Lib.hid (B5.out.trans (hb.mono B5.out.size))
  clear hb K5 B5
  obtain ⟨d0, d1, d2⟩ := bk3 K6.out
  go_wp2
  go_ret
  exact ⟨by simp, B6.out⟩

theorem bounds_walk (f s d a b : Int) (w : World) : Calls Try.prog 3 #[.agg #[.int .i64 f, .int .i64 s, .int .i64 d], .int .i64 a, .int .i64 b] w fun e w' => e = .returned (.bool true) ∧ Below w.heap.size w w' := by
  by_cases h0 : eqzE f s d = 0
  · by_cases h1 : ampE a = 0
    · by_cases hl : d - strF f s ≤ 0
      · cases hw : fromB 0 1000000000000000 [b]
        · exact bounds_ff1 f s d a b w h0 h1 hw hl
        · cases hi : isB f s d a b
          · exact bounds_tf1 f s d a b w h0 h1 hw hi hl
          · exact bounds_tt1 f s d a b w h0 h1 hw hi hl
      · cases hw : fromB 0 1000000000000000 [b]
        · exact bounds_ff0 f s d a b w h0 h1 hw hl
        · cases hi : isB f s d a b
          · exact bounds_tf0 f s d a b w h0 h1 hw hi hl
          · exact bounds_tt0 f s d a b w h0 h1 hw hi hl
    · exact bounds_B f s d a b w h0 h1
  · exact bounds_A f s d a b w h0

end Go.Proofs.Ytnieajfofbidmaa
