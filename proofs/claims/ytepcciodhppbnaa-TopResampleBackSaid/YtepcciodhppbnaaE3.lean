import Derived.Test.YtepcciodhppbnaaE2

namespace Go.Proofs.Ytepcciodhppbnaa
open Go.RowKit

set_option maxRecDepth 100000 in
set_option maxHeartbeats 1000000 in
theorem StableBound_any (f s d a : Int) (w : World) :
    Calls Try.prog 61 #[.agg #[.int .i64 f, .int .i64 s, .int .i64 d], .int .i64 a] w fun e w' => e = .returned (.tuple #[.int .i64 (stbN f s d a), .int .i64 (stbE f s d a)]) ∧ Below w.heap.size w w' := by
  have HE : Hid (stbE f s d a = if eqaE f s d a = 0 then (if d - strF f s ≤ 0 then 22 else 0) else eqaE f s d a) := rfl
  have HN : Hid (stbN f s d a = if stbE f s d a = 0 then upF (a * d) (d - strF f s) else 0) := rfl
  have hz := fun h : eqaE f s d a = 0 => eqaE_zero h
  have C1 := Lib.hid (fun w => CheckEqualizer_any f s d w)
  have C2 := Lib.hid (fun w => checkAmplitude_any a w)
  have CF : Hid (∀ {F : Int} (_ : eqaE f s d a = F) (W : World) (g : Nat) (_ : W.cell? ⟨g, 0, none⟩ = some (.int .i64 (eqzE f s d))) (_ : W.cell? ⟨g, 1, none⟩ = some (.int .i64 (ampE a))), Calls Try.prog 62 #[.slice (some ⟨g, 0, none⟩) 2 2] W fun e w' => e = .returned (.int .i64 F) ∧ W = w') := fun h W g h0 h1 => firstError2 h W g h0 h1
  obtain ⟨F, hF⟩ : ∃ F, eqaE f s d a = F := ⟨_, rfl⟩
  have CF' := Lib.hid (CF.out hF)
  rw [hF] at hz HE
  clear hF CF
  obtain ⟨E1, hE1⟩ : ∃ E, eqzE f s d = E := ⟨_, rfl⟩
  obtain ⟨E2, hE2⟩ : ∃ E, ampE a = E := ⟨_, rfl⟩
  rw [hE1] at C1 CF'
  rw [hE2] at C2 CF'
  clear hE1 hE2
  go_enter Try.func61, Try.ntmps61
  go_wp2_with fail
  refine (C1.out _).mono ?_
  rintro e w1 ⟨rfl, hb1⟩
  have K1 := Lib.hid ((Bk.new w 50 #[.int .i64 f, .int .i64 s, .int .i64 d]).below hb1 (by simp))
  have B1 := Lib.hid (((Below.refl w.heap.size w).alloc (Nat.le_refl _) _).trans (hb1.mono (by simp)))
  clear hb1
  go_wp2_with fail
  refine (C2.out _).mono ?_
  rintro e w2 ⟨rfl, hb2⟩
  have K2 := Lib.hid ((K1.out.later hb2).alloc (.cells #[.int .i64 E1, .int .i64 E2] 30))
  have B2 := Lib.hid (B1.out.trans (hb2.mono B1.out.size))
  clear hb2 K1 B1
  go_wp2_with (go_at_call 62; refine (CF'.out _ _ ?_ ?_).mono ?_; (focus (simp [go_sem])); (focus (simp [go_sem])); rintro e w' ⟨rfl, rfl⟩)
  · go_ret2
    have h0 := ne0_of (F := F) (by assumption)
    refine ⟨retI2 (a := 0) (b := F) ?_ ?_, by exact ((B2.out).alloc (by have := B2.out.size; omega) _)⟩
    · rw [HN.out, HE.out, if_neg h0, if_neg h0]
    · rw [HE.out, if_neg h0]
  · have h0 := eq0_of (F := F) (by assumption)
    subst h0
    have hz1 := hz rfl
    have ht2 := strF_bd hz1.1 hz1.2.1
    have hmd := mul_bd (a := a) (b := d) (A := 32767) (B := 1000) (by omega) (by omega) (by omega) (by omega)
    have CS := Lib.hid (fun w => strength_any f s d w hz1.1 hz1.2.1)
    have hzd := hz1.2.2.1
    clear hz hz1
    obtain ⟨t, ht⟩ : ∃ t, strF f s = t := ⟨_, rfl⟩
    rw [ht] at CS HE HN ht2
    have hw1 : IntKind.i64.wrap (d - t) = d - t := IntWalk.i64_in _ (by omega)
    have hw2 : IntKind.i64.wrap (a * d) = a * d := IntWalk.i64_in _ (by omega)
    clear ht
    obtain ⟨d0, d1, d2⟩ := bk3 K2.out
    go_region_held3 (fun w' : World => w'.cell? ⟨w.heap.size, 0, none⟩ = some (.int .i64 f) ∧ w'.cell? ⟨w.heap.size, 1, none⟩ = some (.int .i64 s) ∧ w'.cell? ⟨w.heap.size, 2, none⟩ = some (.int .i64 d)) ((go_split_ands; simp [go_sem, *])) ((go_at_call 115; refine (CS.out _).mono ?_; rintro e w3 ⟨rfl, hb3⟩; have K3 := (K2.out.drew).later hb3; obtain ⟨d0, d1, d2⟩ := bk3 K3))
    all_goals
      have BW : Hid (Below w.heap.size w w3) := Lib.hid (((B2.out).alloc (by have := B2.out.size; omega) _).drew.trans (hb3.mono (by have := B2.out.size; simp; omega)))
      clear hb3 K3 B2 K2
      go_wp2_with (go_at_call 116; refine (up_any _ _ (by omega) (by omega) _).mono ?_; rintro e w' ⟨rfl, rfl⟩)
      · go_ret2
        have h0 : d - t ≤ 0 := by assumption
        exact ⟨retI2 (a := 0) (b := 22) (by rw [HN.out, HE.out]; simp [h0]) (by rw [HE.out]; simp [h0]), BW.out⟩
      · go_ret2
        have h0 : ¬ d - t ≤ 0 := by omega
        exact ⟨retI2 (a := upF (a * d) (d - t)) (b := 0) (by rw [HN.out, HE.out]; simp [h0]) (by rw [HE.out]; simp [h0]), BW.out⟩

def bndE (b : Int) : Int := rngE 0 1000000000000000 [b]
def chbE (f s d a b : Int) : Int := firstNZ [eqzE f s d, ampE a, bndE b]
def isB (f s d a b : Int) : Bool := decide (a + upF (strF f s * b) d ≤ b)
def ckbE (f s d a b : Int) : Int := if chbE f s d a b = 0 then (if isB f s d a b = true then 0 else 19) else chbE f s d a b
theorem chbE_zero {f s d a b : Int} (h : chbE f s d a b = 0) : (-1000 ≤ f ∧ f ≤ 1000) ∧ (-1000 ≤ s ∧ s ≤ 1000) ∧ (1 ≤ d ∧ d ≤ 1000) ∧ (0 ≤ a ∧ a ≤ 32767) ∧ 0 ≤ b ∧ b ≤ 1000000000000000 := by
  have h1 := eqzE_zero (firstNZ_zero h (eqzE f s d) (by simp))
  have h2 := ampE_zero (firstNZ_zero h (ampE a) (by simp))
  have h3 : 0 ≤ b ∧ b ≤ 1000000000000000 := rngE_zero (firstNZ_zero h (bndE b) (by simp))
  exact ⟨h1.1, h1.2.1, h1.2.2, h2, h3⟩
end Go.Proofs.Ytepcciodhppbnaa
