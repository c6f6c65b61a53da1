import Derived.Test.YtnieajfofbidmaaE23
import Derived.Test.YtnieajfofbidmaaE3

namespace Go.Proofs.Ytnieajfofbidmaa
open Go.RowKit

theorem fromB_one (lo hi n : Int) : fromB lo hi [n] = decide (lo ≤ n ∧ n ≤ hi) := by
  unfold fromB
  by_cases h : lo ≤ n ∧ n ≤ hi
  · rw [decide_eq_true h]; simp [h.1, h.2]
  · rw [decide_eq_false h]; simp; omega
set_option maxRecDepth 100000 in
theorem refAmplitudeErr_any (a : Int) (w : World) :
    Calls Try.prog 19 #[.int .i64 a] w fun e w' => e = .returned (.int .i64 (ampE a)) ∧ w = w' := by
  have HE : Hid (ampE a = if fromB 0 32767 [a] = true then 0 else 2) := rfl
  have W1 := Lib.hid (fun w => within_any a 0 32767 w)
  obtain ⟨x, hx⟩ : ∃ x, fromB 0 32767 [a] = x := ⟨_, rfl⟩
  rw [hx] at W1 HE
  clear hx
  obtain ⟨E, hE⟩ : ∃ E, ampE a = E := ⟨_, rfl⟩
  rw [hE] at HE ⊢
  clear hE
  cases x <;> (
    have HF := HE.out
    simp at HF
    subst HF
    clear HE
    go_enter Try.func19, Try.ntmps19
    go_wp2_with (go_at_call 20; refine (W1.out _).mono ?_; rintro e w' ⟨rfl, rfl⟩)
    go_ret
    exact ⟨rfl, rfl⟩)
set_option maxRecDepth 100000 in
theorem refStrength_any (f s d : Int) (w : World) (hf : -1000 ≤ f ∧ f ≤ 1000) (hs : -1000 ≤ s ∧ s ≤ 1000) :
    Calls Try.prog 75 #[.agg #[.int .i64 f, .int .i64 s, .int .i64 d]] w fun e w' => e = .returned (.int .i64 (strF f s)) ∧ Below w.heap.size w w' := by
  have h1 := absF_bd f 1000 (by omega)
  have h2 := absF_bd s 1000 (by omega)
  have hz : IntKind.i64.wrap (absF f + absF s) = absF f + absF s := IntWalk.i64_in _ (by omega)
  go_enter Try.func75, Try.ntmps75
  go_wp2
  go_quiet ((go_at_call 34; exact quietP (bsize_any _ _ (by omega))))
  go_wp2
  go_ret
  exact ⟨rfl, by (repeat (first | exact Below.refl _ _ | refine Below.drew ?_ | refine belowDrewN ?_ _ | refine Below.alloc ?_ (by first | (simp; done) | (simp; omega)) _))⟩
set_option maxRecDepth 100000 in
set_option maxHeartbeats 1000000 in
theorem refIsBound_any (f s d a b : Int) (w : World) (h : (-1000 ≤ f ∧ f ≤ 1000) ∧ (-1000 ≤ s ∧ s ≤ 1000) ∧ (1 ≤ d ∧ d ≤ 1000) ∧ (0 ≤ a ∧ a ≤ 32767) ∧ 0 ≤ b ∧ b ≤ 1000000000000000) :
    Calls Try.prog 21 #[.agg #[.int .i64 f, .int .i64 s, .int .i64 d], .int .i64 a, .int .i64 b] w fun e w' => e = .returned (.bool (isB f s d a b)) ∧ Below w.heap.size w w' := by
  have HI : Hid (isB f s d a b = decide (a + upF (strF f s * b) d ≤ b)) := rfl
  have ht2 := strF_bd h.1 h.2.1
  have CS := Lib.hid (fun w => refStrength_any f s d w h.1 h.2.1)
  have hzd := h.2.2.1
  have hza := h.2.2.2.1
  have hzb := h.2.2.2.2
  clear h
  obtain ⟨t, ht⟩ : ∃ t, strF f s = t := ⟨_, rfl⟩
  rw [ht] at CS HI ht2
  clear ht
  have hmd := mul_bd (a := t) (b := b) (A := 2000) (B := 1000000000000000) (by omega) (by omega) (by omega) (by omega)
  have hw2 : IntKind.i64.wrap (t * b) = t * b := IntWalk.i64_in _ (by omega)
  have hup : -4611686018427387904 ≤ upF (t * b) d ∧ upF (t * b) d ≤ 4611686018427387904 := by
    have := ediv_bd (-(t * b)) d (by omega) (by omega)
    unfold upF; omega
  have CU := Lib.hid (fun w => ceil_any (t * b) d (by omega) (by omega) w)
  obtain ⟨u, hu⟩ : ∃ u, upF (t * b) d = u := ⟨_, rfl⟩
  rw [hu] at CU HI hup
  clear hu
  have hw3 : IntKind.i64.wrap (a + u) = a + u := IntWalk.i64_in _ (by omega)
  have K0 := Lib.hid (Bk.new w 23 #[.int .i64 f, .int .i64 s, .int .i64 d])
  have B0 := Lib.hid (below1 w (.cells #[.int .i64 f, .int .i64 s, .int .i64 d] 23))
  go_enter Try.func21, Try.ntmps21
  go_wp2
  obtain ⟨W0, hW0⟩ : ∃ W0, w.alloc (.cells #[.int .i64 f, .int .i64 s, .int .i64 d] 23) = W0 := ⟨_, rfl⟩
  rw [hW0] at K0 B0 ⊢
  clear hW0
  obtain ⟨d0, d1, d2⟩ := bk3 K0.out
  go_region_held3 (fun w' : World => w'.cell? ⟨w.heap.size, 0, none⟩ = some (.int .i64 f) ∧ w'.cell? ⟨w.heap.size, 1, none⟩ = some (.int .i64 s) ∧ w'.cell? ⟨w.heap.size, 2, none⟩ = some (.int .i64 d)) ((go_split_ands; simp [go_sem, *])) (first
    | (go_at_call 75; refine (CS.out _).mono ?_; rintro e w3 ⟨rfl, hb3⟩; have K4 := (K0.out.drew).later hb3; obtain ⟨d0, d1, d2⟩ := bk3 K4)
    | (go_at_call 46; refine (CU.out _).mono ?_; rintro e w' ⟨rfl, rfl⟩))
  all_goals
    have BW : Hid (Below w.heap.size w w3) := Lib.hid ((B0.out).drew.trans (hb3.mono (by have := B0.out.size; first | omega | (simp; omega))))
    clear hb3 K4
    go_wp2
    go_ret
    exact ⟨by rw [HI.out]; rfl, BW.out⟩
set_option maxRecDepth 100000 in
set_option maxHeartbeats 1000000 in
theorem refStableBound_any (f s d a : Int) (w : World) (h : (-1000 ≤ f ∧ f ≤ 1000) ∧ (-1000 ≤ s ∧ s ≤ 1000) ∧ (1 ≤ d ∧ d ≤ 1000) ∧ (0 ≤ a ∧ a ≤ 32767)) :
    Calls Try.prog 22 #[.agg #[.int .i64 f, .int .i64 s, .int .i64 d], .int .i64 a] w fun e w' => e = .returned (.tuple #[.int .i64 (if d - strF f s ≤ 0 then 0 else upF (a * d) (d - strF f s)), .bool (!decide (d - strF f s ≤ 0))]) ∧ Below w.heap.size w w' := by
  have ht2 := strF_bd h.1 h.2.1
  have CS := Lib.hid (fun w => refStrength_any f s d w h.1 h.2.1)
  have hzd := h.2.2.1
  have hza := h.2.2.2
  clear h
  have hmd := mul_bd (a := a) (b := d) (A := 32767) (B := 1000) (by omega) (by omega) (by omega) (by omega)
  obtain ⟨t, ht⟩ : ∃ t, strF f s = t := ⟨_, rfl⟩
  rw [ht] at CS ht2 ⊢
  clear ht
  have hw1 : IntKind.i64.wrap (d - t) = d - t := IntWalk.i64_in _ (by omega)
  have hw2 : IntKind.i64.wrap (a * d) = a * d := IntWalk.i64_in _ (by omega)
  have K0 := Lib.hid (Bk.new w 23 #[.int .i64 f, .int .i64 s, .int .i64 d])
  have B0 := Lib.hid (below1 w (.cells #[.int .i64 f, .int .i64 s, .int .i64 d] 23))
  by_cases h0 : d - t ≤ 0
  · have HV : Hid ((if d - t ≤ 0 then 0 else upF (a * d) (d - t)) = 0 ∧ (!decide (d - t ≤ 0)) = false) := by constructor <;> simp [h0]
    rw [HV.out.1, HV.out.2]
    clear HV
    go_enter Try.func22, Try.ntmps22
    go_wp2
    obtain ⟨W0, hW0⟩ : ∃ W0, w.alloc (.cells #[.int .i64 f, .int .i64 s, .int .i64 d] 23) = W0 := ⟨_, rfl⟩
    rw [hW0] at K0 B0 ⊢
    clear hW0
    obtain ⟨d0, d1, d2⟩ := bk3 K0.out
    go_region_held3 (fun w' : World => w'.cell? ⟨w.heap.size, 0, none⟩ = some (.int .i64 f) ∧ w'.cell? ⟨w.heap.size, 1, none⟩ = some (.int .i64 s) ∧ w'.cell? ⟨w.heap.size, 2, none⟩ = some (.int .i64 d)) ((go_split_ands; simp [go_sem, *])) ((go_at_call 75; refine (CS.out _).mono ?_; rintro e w3 ⟨rfl, hb3⟩; have K3 := (K0.out.drew).later hb3; obtain ⟨d0, d1, d2⟩ := bk3 K3))
    all_goals
      have BW : Hid (Below w.heap.size w w3) := Lib.hid ((B0.out).drew.trans (hb3.mono (by have := B0.out.size; first | omega | (simp; omega))))
      clear hb3 K3 B0 K0
      go_wp2
      go_ret2
      exact ⟨rfl, BW.out⟩
  · have HV : Hid ((if d - t ≤ 0 then 0 else upF (a * d) (d - t)) = upF (a * d) (d - t) ∧ (!decide (d - t ≤ 0)) = true) := by constructor <;> simp [h0]
    have hpos : 0 < d - t := by omega
    have CU := Lib.hid (fun w => ceil_any (a * d) (d - t) (by omega) (by omega) w)
    obtain ⟨u, hu⟩ : ∃ u, upF (a * d) (d - t) = u := ⟨_, rfl⟩
    rw [hu] at CU HV ⊢
    clear hu
    rw [HV.out.1, HV.out.2]
    clear HV
    go_enter Try.func22, Try.ntmps22
    go_wp2
    obtain ⟨W0, hW0⟩ : ∃ W0, w.alloc (.cells #[.int .i64 f, .int .i64 s, .int .i64 d] 23) = W0 := ⟨_, rfl⟩
    rw [hW0] at K0 B0 ⊢
    clear hW0
    obtain ⟨d0, d1, d2⟩ := bk3 K0.out
    go_region_held3 (fun w' : World => w'.cell? ⟨w.heap.size, 0, none⟩ = some (.int .i64 f) ∧ w'.cell? ⟨w.heap.size, 1, none⟩ = some (.int .i64 s) ∧ w'.cell? ⟨w.heap.size, 2, none⟩ = some (.int .i64 d)) ((go_split_ands; simp [go_sem, *])) ((go_at_call 75; refine (CS.out _).mono ?_; rintro e w3 ⟨rfl, hb3⟩; have K3 := (K0.out.drew).later hb3; obtain ⟨d0, d1, d2⟩ := bk3 K3))
    all_goals
      have BW : Hid (Below w.heap.size w w3) := Lib.hid ((B0.out).drew.trans (hb3.mono (by have := B0.out.size; first | omega | (simp; omega))))
      clear hb3 K3 B0 K0
      go_wp2_with (go_at_call 46; refine (CU.out _).mono ?_; rintro e w' ⟨rfl, rfl⟩)
      go_ret2
      exact ⟨rfl, BW.out⟩

end Go.Proofs.Ytnieajfofbidmaa
