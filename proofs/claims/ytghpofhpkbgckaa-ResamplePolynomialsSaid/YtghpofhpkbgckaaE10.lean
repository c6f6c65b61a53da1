import Derived.Test.YtghpofhpkbgckaaE9

namespace Go.Proofs.Ytghpofhpkbgckaa
open Go.RowKit

def remF (d f : Int) : Int := if d = 1 then f * (f - 64) else (f + 64) * f * (f - 64) * (f - 128)
def rdn (d : Int) : Int := if d = 1 then 8192 else 402653184
theorem rem_bd1 {f : Int} (h : 0 ≤ f ∧ f ≤ 63) : -76800000 ≤ f * (f - 64) ∧ f * (f - 64) ≤ 76800000 := by
  have := mulB (a := f) (b := f - 64) 64 64 (by omega) (by omega) (by omega) (by omega) 4096 (by omega)
  omega
theorem rem_bd3 {f : Int} (h : 0 ≤ f ∧ f ≤ 63) : -76800000 ≤ (f + 64) * f * (f - 64) * (f - 128) ∧ (f + 64) * f * (f - 64) * (f - 128) ≤ 76800000 := by
  obtain ⟨a1, a2, b1, b2, c1, c2, d1, d2, d3⟩ := prods h
  exact d3
def degfE (d f : Int) : Int := firstNZ [degE d, frcE f]
theorem degE_of1 : degE 1 = 0 := by unfold degE; simp
theorem degE_of3 : degE 3 = 0 := by unfold degE; simp
theorem degE_no {d : Int} (h1 : d ≠ 1) (h3 : d ≠ 3) : degE d = 15 := by unfold degE; rw [if_neg (by omega)]
theorem degfE_zero {d f : Int} (h : degfE d f = 0) : 0 ≤ f ∧ f ≤ 63 := rngE_zero (firstNZ_zero h (frcE f) (by simp))

def remN (d f : Int) : Int := if degfE d f = 0 then frN (remF d f) (rdn d) else 0
def remD (d f : Int) : Int := if degfE d f = 0 then frD (remF d f) (rdn d) else 0
theorem retA2 {a b c x y z : Int} (h : a = x) (k : b = y) (l : c = z) : Ending.returned (.tuple #[.agg #[.int .i64 a, .int .i64 b], .int .i64 c]) = Ending.returned (.tuple #[.agg #[.int .i64 x, .int .i64 y], .int .i64 z]) := by rw [h, k, l]
/-- The greatest remainder's size up to a fraction. -/
def mxR (d : Int) : Nat → Int
  | 0 => 0
  | k + 1 => max (mxR d k) (absF (remF d k))

set_option maxRecDepth 100000 in
set_option maxHeartbeats 2000000 in
theorem RemainderAt1_any (f : Int) (w : World) :
    Calls Try.prog 15 #[.int .i64 1, .int .i64 f] w fun e w' => e = .returned (.tuple #[.agg #[.int .i64 (remN 1 f), .int .i64 (remD 1 f)], .int .i64 (degfE 1 f)]) ∧ Below w.heap.size w w' := by
  have CF : Hid (∀ {F : Int} (_ : degfE 1 f = F) (W : World) (g : Nat) (_ : W.cell? ⟨g, 0, none⟩ = some (.int .i64 (degE 1))) (_ : W.cell? ⟨g, 1, none⟩ = some (.int .i64 (frcE f))), Calls Try.prog 63 #[.slice (some ⟨g, 0, none⟩) 2 2] W fun e w' => e = .returned (.int .i64 F) ∧ W = w') := fun h W g h0 h1 => firstError2 h W g h0 h1
  have C2 := Lib.hid (fun w => checkFraction_any f w)
  have HG : Hid (degE 1 = 0) := degE_of1
  have HRN : Hid (remN 1 f = if degfE 1 f = 0 then frN (remF 1 f) (rdn 1) else 0) := rfl
  have HRD2 : Hid (remD 1 f = if degfE 1 f = 0 then frD (remF 1 f) (rdn 1) else 0) := rfl
  have HZ : Hid (degfE 1 f = 0 → 0 ≤ f ∧ f ≤ 63) := fun h => degfE_zero h
  have C1 := Lib.hid (fun w => itpOf_1 w)
  have CQ : Hid (0 ≤ f ∧ f ≤ 63 → ∀ w, Calls Try.prog 94 #[.int .i64 f] w fun e w' => e = .returned (.int .i64 (remF 1 f)) ∧ w = w') := fun h w => rem1_any f w h
  have HBD : Hid (0 ≤ f ∧ f ≤ 63 → -76800000 ≤ remF 1 f ∧ remF 1 f ≤ 76800000) := fun h => rem_bd1 h
  have HRD : Hid (rdn 1 = 8192) := rfl
  obtain ⟨r, hr⟩ : ∃ r, remF 1 f = r := ⟨_, rfl⟩
  rw [hr] at CQ HBD
  rw [HG.out] at CF
  obtain ⟨F, hF⟩ : ∃ F, degfE 1 f = F := ⟨_, rfl⟩
  have CF' := Lib.hid (CF.out hF)
  rw [hF] at HZ
  have HR := Lib.hid hr
  have HF := Lib.hid hF
  clear hF CF HG hr
  obtain ⟨E2, hE2⟩ : ∃ E, frcE f = E := ⟨_, rfl⟩
  rw [hE2] at C2 CF'
  clear hE2
  unfold itp1 at C1
  go_enter Try.func15, Try.ntmps15
  go_wp2_with fail
  refine (C1.out _).mono ?_
  rintro e w1 ⟨rfl, hb1⟩
  have B1 := Lib.hid (((Below.refl w.heap.size w).alloc (Nat.le_refl _) _).trans (hb1.mono (by simp)))
  have K1 := Lib.hid ((Bk.new w 28 #[.int .i64 0, .int .i64 0]).later hb1)
  have hz1 : w.heap.size < w1.heap.size := by have := hb1.size; simp at this; omega
  clear hb1 C1
  go_wp2_with fail
  refine (C2.out _).mono ?_
  rintro e w2 ⟨rfl, hb2⟩
  have KI := Lib.hid ((Bk.new w1 99 #[.int .i64 1, .int .i64 0, .int .i64 64, .func (.func 93) #[] #[], .int .i64 8192, .func (.func 94) #[] #[]]).later hb2)
  have K2 := Lib.hid ((K1.out.alloc (.cells #[.int .i64 1, .int .i64 0, .int .i64 64, .func (.func 93) #[] #[], .int .i64 8192, .func (.func 94) #[] #[]] 99)).later hb2)
  have B2 := Lib.hid ((B1.out.alloc (by omega) (.cells #[.int .i64 1, .int .i64 0, .int .i64 64, .func (.func 93) #[] #[], .int .i64 8192, .func (.func 94) #[] #[]] 99)).trans (hb2.mono (by simp; omega)))
  have hz2 : w1.heap.size < w2.heap.size := by have := hb2.size; simp at this; omega
  clear hb2 B1 K1
  go_wp2_with fail
  refine (CF'.out _ _ ?_ ?_).mono ?_
  · simp [go_sem]
  · simp [go_sem]
  rintro e w' ⟨rfl, rfl⟩
  have KI3 := Lib.hid ((KI.out.alloc (.cells #[.int .i64 0, .int .i64 E2] 29)))
  have K3 := Lib.hid ((K2.out.alloc (.cells #[.int .i64 0, .int .i64 E2] 29)))
  have B3 := Lib.hid (B2.out.alloc (by omega) (.cells #[.int .i64 0, .int .i64 E2] 29))
  clear KI K2 B2
  obtain ⟨W3, hW3⟩ : ∃ W3, w2.alloc (.cells #[.int .i64 0, .int .i64 E2] 29) = W3 := ⟨_, rfl⟩
  rw [hW3] at KI3 K3 B3 ⊢
  clear hW3
  have e0 : W3.cell? ⟨w.heap.size, 0, none⟩ = some (.int .i64 0) := by rw [K3.out.cell]; rfl
  have e1 : W3.cell? ⟨w.heap.size, 1, none⟩ = some (.int .i64 0) := by rw [K3.out.cell]; rfl
  have k0 : W3.frozen? ⟨w.heap.size, 0, none⟩ = false := K3.out.frozen 0
  have k1 : W3.frozen? ⟨w.heap.size, 1, none⟩ = false := K3.out.frozen 1
  go_wp2
  · have h0 := ne0_of (F := F) (by assumption)
    refine bodyPost_ret (v := .tuple #[.agg #[.int .i64 0, .int .i64 0], .int .i64 F]) (by simp [results, Try.results15, go_sem, e0, e1, k0, k1]) rfl ⟨?_, ?_⟩
    · exact retA2 (by rw [HRN.out, HF.out, if_neg h0]) (by rw [HRD2.out, HF.out, if_neg h0]) HF.out.symm
    · have := B3.out
      have := this.size
      go_grown
  · have h0 := eq0_of (F := F) (by assumption)
    subst h0
    have hz := HZ.out rfl
    have CQ2 := Lib.hid (CQ.out hz)
    have hbd := HBD.out hz
    have CFR := Lib.hid (fun w => fractionOf_any r 8192 w (by omega) (by omega))
    have HX : Hid (frN (remF 1 f) (rdn 1) = frN r 8192) := by show _ = _; rw [HR.out, HRD.out]
    have HY : Hid (frD (remF 1 f) (rdn 1) = frD r 8192) := by show _ = _; rw [HR.out, HRD.out]
    obtain ⟨x, hx⟩ : ∃ x, frN r 8192 = x := ⟨_, rfl⟩
    obtain ⟨y, hy⟩ : ∃ y, frD r 8192 = y := ⟨_, rfl⟩
    rw [hx] at CFR HX
    rw [hy] at CFR HY
    clear hx hy hz CF' C2 CQ HBD HZ HR HRD
    clear e0 e1 k0 k1
    obtain ⟨q0, q1, q2, q3, q4, q5⟩ := bk6 KI3.out
    have hne : ¬ w1.heap.size = w.heap.size := by omega
    have hne2 : ¬ w.heap.size = w1.heap.size := by omega
    go_region_held3 (fun w' : World => (w'.cell? ⟨w1.heap.size, 0, none⟩ = some (.int .i64 1) ∧ w'.cell? ⟨w1.heap.size, 1, none⟩ = some (.int .i64 0) ∧ w'.cell? ⟨w1.heap.size, 2, none⟩ = some (.int .i64 64) ∧ w'.cell? ⟨w1.heap.size, 3, none⟩ = some (.func (.func 93) #[] #[]) ∧ w'.cell? ⟨w1.heap.size, 4, none⟩ = some (.int .i64 8192) ∧ w'.cell? ⟨w1.heap.size, 5, none⟩ = some (.func (.func 94) #[] #[]))) (((repeat' apply And.intro) <;> first | assumption | (simp [go_sem]; assumption) | (simp [go_sem, *]; done)))
      (first | (go_at_call 94; refine (CQ2.out _).mono ?_; rintro e w' ⟨rfl, rfl⟩)
             | (go_at_call 65; refine (CFR.out _).mono ?_; rintro e w3 ⟨rfl, hb3⟩; have K4 : Bk w3 w1.heap.size 99 #[.int .i64 1, .int .i64 0, .int .i64 64, .func (.func 93) #[] #[], .int .i64 8192, .func (.func 94) #[] #[]] := (KI3.out.drew).later hb3; have K5 : Bk w3 w.heap.size 28 #[.int .i64 0, .int .i64 0] := (K3.out.drew).later hb3; have B4 : Below W3.heap.size W3 w3 := (Below.refl _ _).drew.trans hb3; have e0 : w3.cell? ⟨w.heap.size, 0, none⟩ = some (.int .i64 0) := (by rw [K5.cell]; rfl); have e1 : w3.cell? ⟨w.heap.size, 1, none⟩ = some (.int .i64 0) := (by rw [K5.cell]; rfl); have k0 := K5.frozen 0; have k1 := K5.frozen 1; have qq := bk6 K4; obtain ⟨q0, q1, q2, q3, q4, q5⟩ := qq))
    all_goals
      have BW := Lib.hid (B3.out.trans (B4.mono B3.out.size))
      clear hb3 K4 B4 K5
      go_wp2
      refine bodyPost_ret (v := .tuple #[.agg #[.int .i64 x, .int .i64 y], .int .i64 0]) (by simp [results, Try.results15, go_sem, e0, e1, k0, k1]) rfl ⟨?_, ?_⟩
      · exact retA2 (by rw [HRN.out, HF.out, if_pos rfl, HX.out]) (by rw [HRD2.out, HF.out, if_pos rfl, HY.out]) HF.out.symm
      · have := BW.out
        go_grown

set_option maxRecDepth 100000 in
set_option maxHeartbeats 2000000 in
theorem RemainderAt3_any (f : Int) (w : World) :
    Calls Try.prog 15 #[.int .i64 3, .int .i64 f] w fun e w' => e = .returned (.tuple #[.agg #[.int .i64 (remN 3 f), .int .i64 (remD 3 f)], .int .i64 (degfE 3 f)]) ∧ Below w.heap.size w w' := by
  have CF : Hid (∀ {F : Int} (_ : degfE 3 f = F) (W : World) (g : Nat) (_ : W.cell? ⟨g, 0, none⟩ = some (.int .i64 (degE 3))) (_ : W.cell? ⟨g, 1, none⟩ = some (.int .i64 (frcE f))), Calls Try.prog 63 #[.slice (some ⟨g, 0, none⟩) 2 2] W fun e w' => e = .returned (.int .i64 F) ∧ W = w') := fun h W g h0 h1 => firstError2 h W g h0 h1
  have C2 := Lib.hid (fun w => checkFraction_any f w)
  have HG : Hid (degE 3 = 0) := degE_of3
  have HRN : Hid (remN 3 f = if degfE 3 f = 0 then frN (remF 3 f) (rdn 3) else 0) := rfl
  have HRD2 : Hid (remD 3 f = if degfE 3 f = 0 then frD (remF 3 f) (rdn 3) else 0) := rfl
  have HZ : Hid (degfE 3 f = 0 → 0 ≤ f ∧ f ≤ 63) := fun h => degfE_zero h
  have C1 := Lib.hid (fun w => itpOf_3 w)
  have CQ : Hid (0 ≤ f ∧ f ≤ 63 → ∀ w, Calls Try.prog 96 #[.int .i64 f] w fun e w' => e = .returned (.int .i64 (remF 3 f)) ∧ w = w') := fun h w => rem3_any f w h
  have HBD : Hid (0 ≤ f ∧ f ≤ 63 → -76800000 ≤ remF 3 f ∧ remF 3 f ≤ 76800000) := fun h => rem_bd3 h
  have HRD : Hid (rdn 3 = 402653184) := rfl
  obtain ⟨r, hr⟩ : ∃ r, remF 3 f = r := ⟨_, rfl⟩
  rw [hr] at CQ HBD
  rw [HG.out] at CF
  obtain ⟨F, hF⟩ : ∃ F, degfE 3 f = F := ⟨_, rfl⟩
  have CF' := Lib.hid (CF.out hF)
  rw [hF] at HZ
  have HR := Lib.hid hr
  have HF := Lib.hid hF
  clear hF CF HG hr
  obtain ⟨E2, hE2⟩ : ∃ E, frcE f = E := ⟨_, rfl⟩
  rw [hE2] at C2 CF'
  clear hE2
  unfold itp3 at C1
  go_enter Try.func15, Try.ntmps15
  go_wp2_with fail
  refine (C1.out _).mono ?_
  rintro e w1 ⟨rfl, hb1⟩
  have B1 := Lib.hid (((Below.refl w.heap.size w).alloc (Nat.le_refl _) _).trans (hb1.mono (by simp)))
  have K1 := Lib.hid ((Bk.new w 28 #[.int .i64 0, .int .i64 0]).later hb1)
  have hz1 : w.heap.size < w1.heap.size := by have := hb1.size; simp at this; omega
  clear hb1 C1
  go_wp2_with fail
  refine (C2.out _).mono ?_
  rintro e w2 ⟨rfl, hb2⟩
  have KI := Lib.hid ((Bk.new w1 99 #[.int .i64 3, .int .i64 1, .int .i64 1572864, .func (.func 95) #[] #[], .int .i64 402653184, .func (.func 96) #[] #[]]).later hb2)
  have K2 := Lib.hid ((K1.out.alloc (.cells #[.int .i64 3, .int .i64 1, .int .i64 1572864, .func (.func 95) #[] #[], .int .i64 402653184, .func (.func 96) #[] #[]] 99)).later hb2)
  have B2 := Lib.hid ((B1.out.alloc (by omega) (.cells #[.int .i64 3, .int .i64 1, .int .i64 1572864, .func (.func 95) #[] #[], .int .i64 402653184, .func (.func 96) #[] #[]] 99)).trans (hb2.mono (by simp; omega)))
  have hz2 : w1.heap.size < w2.heap.size := by have := hb2.size; simp at this; omega
  clear hb2 B1 K1
  go_wp2_with fail
  refine (CF'.out _ _ ?_ ?_).mono ?_
  · simp [go_sem]
  · simp [go_sem]
  rintro e w' ⟨rfl, rfl⟩
  have KI3 := Lib.hid ((KI.out.alloc (.cells #[.int .i64 0, .int .i64 E2] 29)))
  have K3 := Lib.hid ((K2.out.alloc (.cells #[.int .i64 0, .int .i64 E2] 29)))
  have B3 := Lib.hid (B2.out.alloc (by omega) (.cells #[.int .i64 0, .int .i64 E2] 29))
  clear KI K2 B2
  obtain ⟨W3, hW3⟩ : ∃ W3, w2.alloc (.cells #[.int .i64 0, .int .i64 E2] 29) = W3 := ⟨_, rfl⟩
  rw [hW3] at KI3 K3 B3 ⊢
  clear hW3
  have e0 : W3.cell? ⟨w.heap.size, 0, none⟩ = some (.int .i64 0) := by rw [K3.out.cell]; rfl
  have e1 : W3.cell? ⟨w.heap.size, 1, none⟩ = some (.int .i64 0) := by rw [K3.out.cell]; rfl
  have k0 : W3.frozen? ⟨w.heap.size, 0, none⟩ = false := K3.out.frozen 0
  have k1 : W3.frozen? ⟨w.heap.size, 1, none⟩ = false := K3.out.frozen 1
  go_wp2
  · have h0 := ne0_of (F := F) (by assumption)
    refine bodyPost_ret (v := .tuple #[.agg #[.int .i64 0, .int .i64 0], .int .i64 F]) (by simp [results, Try.results15, go_sem, e0, e1, k0, k1]) rfl ⟨?_, ?_⟩
    · exact retA2 (by rw [HRN.out, HF.out, if_neg h0]) (by rw [HRD2.out, HF.out, if_neg h0]) HF.out.symm
    · have := B3.out
      have := this.size
      go_grown
  · have h0 := eq0_of (F := F) (by assumption)
    subst h0
    have hz := HZ.out rfl
    have CQ2 := Lib.hid (CQ.out hz)
    have hbd := HBD.out hz
    have CFR := Lib.hid (fun w => fractionOf_any r 402653184 w (by omega) (by omega))
    have HX : Hid (frN (remF 3 f) (rdn 3) = frN r 402653184) := by show _ = _; rw [HR.out, HRD.out]
    have HY : Hid (frD (remF 3 f) (rdn 3) = frD r 402653184) := by show _ = _; rw [HR.out, HRD.out]
    obtain ⟨x, hx⟩ : ∃ x, frN r 402653184 = x := ⟨_, rfl⟩
    obtain ⟨y, hy⟩ : ∃ y, frD r 402653184 = y := ⟨_, rfl⟩
    rw [hx] at CFR HX
    rw [hy] at CFR HY
    clear hx hy hz CF' C2 CQ HBD HZ HR HRD
    clear e0 e1 k0 k1
    obtain ⟨q0, q1, q2, q3, q4, q5⟩ := bk6 KI3.out
    have hne : ¬ w1.heap.size = w.heap.size := by omega
    have hne2 : ¬ w.heap.size = w1.heap.size := by omega
    go_region_held3 (fun w' : World => (w'.cell? ⟨w1.heap.size, 0, none⟩ = some (.int .i64 3) ∧ w'.cell? ⟨w1.heap.size, 1, none⟩ = some (.int .i64 1) ∧ w'.cell? ⟨w1.heap.size, 2, none⟩ = some (.int .i64 1572864) ∧ w'.cell? ⟨w1.heap.size, 3, none⟩ = some (.func (.func 95) #[] #[]) ∧ w'.cell? ⟨w1.heap.size, 4, none⟩ = some (.int .i64 402653184) ∧ w'.cell? ⟨w1.heap.size, 5, none⟩ = some (.func (.func 96) #[] #[]))) (((repeat' apply And.intro) <;> first | assumption | (simp [go_sem]; assumption) | (simp [go_sem, *]; done)))
      (first | (go_at_call 96; refine (CQ2.out _).mono ?_; rintro e w' ⟨rfl, rfl⟩)
             | (go_at_call 65; refine (CFR.out _).mono ?_; rintro e w3 ⟨rfl, hb3⟩; have K4 : Bk w3 w1.heap.size 99 #[.int .i64 3, .int .i64 1, .int .i64 1572864, .func (.func 95) #[] #[], .int .i64 402653184, .func (.func 96) #[] #[]] := (KI3.out.drew).later hb3; have K5 : Bk w3 w.heap.size 28 #[.int .i64 0, .int .i64 0] := (K3.out.drew).later hb3; have B4 : Below W3.heap.size W3 w3 := (Below.refl _ _).drew.trans hb3; have e0 : w3.cell? ⟨w.heap.size, 0, none⟩ = some (.int .i64 0) := (by rw [K5.cell]; rfl); have e1 : w3.cell? ⟨w.heap.size, 1, none⟩ = some (.int .i64 0) := (by rw [K5.cell]; rfl); have k0 := K5.frozen 0; have k1 := K5.frozen 1; have qq := bk6 K4; obtain ⟨q0, q1, q2, q3, q4, q5⟩ := qq))
    all_goals
      have BW := Lib.hid (B3.out.trans (B4.mono B3.out.size))
      clear hb3 K4 B4 K5
      go_wp2
      refine bodyPost_ret (v := .tuple #[.agg #[.int .i64 x, .int .i64 y], .int .i64 0]) (by simp [results, Try.results15, go_sem, e0, e1, k0, k1]) rfl ⟨?_, ?_⟩
      · exact retA2 (by rw [HRN.out, HF.out, if_pos rfl, HX.out]) (by rw [HRD2.out, HF.out, if_pos rfl, HY.out]) HF.out.symm
      · have := BW.out
        go_grown

set_option maxRecDepth 100000 in
set_option maxHeartbeats 2000000 in
theorem RemainderAt0_any (d : Int) (h1 : d ≠ 1) (h3 : d ≠ 3) (f : Int) (w : World) :
    Calls Try.prog 15 #[.int .i64 d, .int .i64 f] w fun e w' => e = .returned (.tuple #[.agg #[.int .i64 (remN d f), .int .i64 (remD d f)], .int .i64 (degfE d f)]) ∧ Below w.heap.size w w' := by
  have CF : Hid (∀ {F : Int} (_ : degfE d f = F) (W : World) (g : Nat) (_ : W.cell? ⟨g, 0, none⟩ = some (.int .i64 (degE d))) (_ : W.cell? ⟨g, 1, none⟩ = some (.int .i64 (frcE f))), Calls Try.prog 63 #[.slice (some ⟨g, 0, none⟩) 2 2] W fun e w' => e = .returned (.int .i64 F) ∧ W = w') := fun h W g h0 h1 => firstError2 h W g h0 h1
  have C2 := Lib.hid (fun w => checkFraction_any f w)
  have HG : Hid (degE d = 15) := degE_no h1 h3
  have HV15 : degfE d f = 15 := by unfold degfE; rw [HG.out]; rfl
  have C1 := Lib.hid (fun w => itpOf_no d w h1 h3)
  clear h1 h3
  rw [HG.out] at CF
  obtain ⟨F, hF⟩ : ∃ F, degfE d f = F := ⟨_, rfl⟩
  have CF' := Lib.hid (CF.out hF)
  rw [HV15] at hF
  subst hF
  have hF : degfE d f = 15 := HV15
  have HF := Lib.hid hF
  clear hF CF HG HV15
  obtain ⟨E2, hE2⟩ : ∃ E, frcE f = E := ⟨_, rfl⟩
  rw [hE2] at C2 CF'
  clear hE2
  unfold itp0 at C1
  go_enter Try.func15, Try.ntmps15
  go_wp2_with fail
  refine (C1.out _).mono ?_
  rintro e w1 ⟨rfl, hb1⟩
  have B1 := Lib.hid (((Below.refl w.heap.size w).alloc (Nat.le_refl _) _).trans (hb1.mono (by simp)))
  have K1 := Lib.hid ((Bk.new w 28 #[.int .i64 0, .int .i64 0]).later hb1)
  have hz1 : w.heap.size < w1.heap.size := by have := hb1.size; simp at this; omega
  clear hb1 C1
  go_wp2_with fail
  refine (C2.out _).mono ?_
  rintro e w2 ⟨rfl, hb2⟩
  have KI := Lib.hid ((Bk.new w1 99 #[.int .i64 0, .int .i64 0, .int .i64 0, .nilFunc, .int .i64 0, .nilFunc]).later hb2)
  have K2 := Lib.hid ((K1.out.alloc (.cells #[.int .i64 0, .int .i64 0, .int .i64 0, .nilFunc, .int .i64 0, .nilFunc] 99)).later hb2)
  have B2 := Lib.hid ((B1.out.alloc (by omega) (.cells #[.int .i64 0, .int .i64 0, .int .i64 0, .nilFunc, .int .i64 0, .nilFunc] 99)).trans (hb2.mono (by simp; omega)))
  have hz2 : w1.heap.size < w2.heap.size := by have := hb2.size; simp at this; omega
  clear hb2 B1 K1
  go_wp2_with fail
  refine (CF'.out _ _ ?_ ?_).mono ?_
  · simp [go_sem]
  · simp [go_sem]
  rintro e w' ⟨rfl, rfl⟩
  have KI3 := Lib.hid ((KI.out.alloc (.cells #[.int .i64 15, .int .i64 E2] 29)))
  have K3 := Lib.hid ((K2.out.alloc (.cells #[.int .i64 15, .int .i64 E2] 29)))
  have B3 := Lib.hid (B2.out.alloc (by omega) (.cells #[.int .i64 15, .int .i64 E2] 29))
  clear KI K2 B2
  obtain ⟨W3, hW3⟩ : ∃ W3, w2.alloc (.cells #[.int .i64 15, .int .i64 E2] 29) = W3 := ⟨_, rfl⟩
  rw [hW3] at KI3 K3 B3 ⊢
  clear hW3
  have e0 : W3.cell? ⟨w.heap.size, 0, none⟩ = some (.int .i64 0) := by rw [K3.out.cell]; rfl
  have e1 : W3.cell? ⟨w.heap.size, 1, none⟩ = some (.int .i64 0) := by rw [K3.out.cell]; rfl
  have k0 : W3.frozen? ⟨w.heap.size, 0, none⟩ = false := K3.out.frozen 0
  have k1 : W3.frozen? ⟨w.heap.size, 1, none⟩ = false := K3.out.frozen 1
  go_wp2
  refine bodyPost_ret (v := .tuple #[.agg #[.int .i64 0, .int .i64 0], .int .i64 15]) (by simp [results, Try.results15, go_sem, e0, e1, k0, k1]) rfl ⟨?_, ?_⟩
  · exact retA2 (by unfold remN; rw [HF.out]; rfl) (by unfold remD; rw [HF.out]; rfl) HF.out.symm
  · have := B3.out
    have := this.size
    go_grown

theorem RemainderAt_any (d f : Int) (w : World) :
    Calls Try.prog 15 #[.int .i64 d, .int .i64 f] w fun e w' => e = .returned (.tuple #[.agg #[.int .i64 (remN d f), .int .i64 (remD d f)], .int .i64 (degfE d f)]) ∧ Below w.heap.size w w' := by
  by_cases h1 : d = 1
  · subst h1; exact RemainderAt1_any f w
  · by_cases h3 : d = 3
    · subst h3; exact RemainderAt3_any f w
    · exact RemainderAt0_any d h1 h3 f w

end Go.Proofs.Ytghpofhpkbgckaa
