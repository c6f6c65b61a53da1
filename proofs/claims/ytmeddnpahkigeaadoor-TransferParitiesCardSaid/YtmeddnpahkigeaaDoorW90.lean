import Derived.Test.YtmeddnpahkigeaaDoorW89
import Derived.Test.YtmeddnpahkigeaaDoorW22
namespace Go.Proofs.YtmeddnpahkigeaaDoor
open Go.RowKit

set_option maxRecDepth 100000 in
theorem par_long (n : Int) (A : Option Addr) (k cp : Nat) (count : Int) (w : World) (hw : Laid w) (hk : 14 < k) :
    Calls Tryd.prog 4 #[.int .i64 n, .slice A k cp, .int .i64 count] w fun e w' => e = .returned (.bool true) ∧ Below w.heap.size w w' := by
  have HW := Lib.hid hw
  have hkI : (14 : Int) < (k : Int) := by omega
  clear hw
  go_enter Tryd.func4, Tryd.ntmps4
  go_wp2_with fail
  refine (awake_any _ HW.out).mono ?_
  rintro e w2 ⟨rfl, hb2⟩
  have L2 := Lib.hid hb2
  clear hb2
  go_wp2
  go_ret
  exact ⟨rfl, L2.out⟩

set_option maxRecDepth 100000 in
set_option maxHeartbeats 1000000 in
theorem par_ok_ok (n : Int) (A : Option Addr) (k cp : Nat) (ds : List (List Int)) (count : Int) (w : World) (hw : Laid w) (hA : A = none → k = 0 ∧ cp = 0) (hr : RdD w A k ds) (hk : k ≤ 14)
    (hI : 1 ≤ n ∧ n ≤ 65536) (hE : datE k ds count = 0) :
    Calls Tryd.prog 4 #[.int .i64 n, .slice A k cp, .int .i64 count] w fun e w' => e = .returned (.bool true) ∧ Below w.heap.size w w' := by
  have HW := Lib.hid hw
  have HR := Lib.hid hr
  have hkI : ¬ (14 : Int) < (k : Int) := by omega
  have CC : Hid (∀ W, RdD W A k ds → Calls Tryd.prog 15 #[.slice A k cp] W fun e w' => ∃ A3 c3, e = .returned (.slice A3 k c3) ∧ (A3 = none → k = 0 ∧ c3 = 0) ∧ RdD w' A3 k ds ∧ Below W.heap.size W w') := fun W h => copyData_any A k cp ds W hA h (by omega)
  have CDE : Hid (∀ W, RdD W A k ds → Calls Tryd.prog 19 #[.slice A k cp, .int .i64 count] W fun e w' => e = .returned (.int .i64 (datE k ds count)) ∧ Below W.heap.size W w') := fun W h => dataErr_any A k cp ds count W h (by omega)
  have hprod := mul_bd2 n (invT n) 65536 65536 (by omega) (invT_bd n).1 hI.2 (by have := (invT_bd n).2; omega)
  have hrem : (n * invT n).tmod 65537 = 1 := by rw [Int.tmod_eq_emod_of_nonneg hprod.1]; exact invT_mul n hI.1 hI.2
  have hiv1 := invT_pos n hI.1 hI.2
  have hiv2 : invT n ≤ 65536 := by have := (invT_bd n).2; omega
  have C1 : Hid (∀ W, Calls Tryd.prog 13 #[.int .i64 n] W fun e w' => e = .returned (.tuple #[.int .i64 (invT n), .int .i64 0]) ∧ Below W.heap.size W w') := fun W => inverse_ok n hI.1 hI.2 W
  have C2 : Hid (∀ W, Calls Tryd.prog 16 #[.int .i64 n] W fun e w' => e = .returned (.int .i64 0) ∧ W = w') := fun W => by
    have := inverseErr_any n W
    rw [show invE n = 0 by unfold invE; rw [if_pos (show inB n 0 65536 = true by simp [inB]; omega), if_neg (by omega)]] at this
    exact this
  have C3 : Hid (∀ W, Calls Tryd.prog 17 #[.int .i64 n] W fun e w' => e = .returned (.int .i64 (invT n)) ∧ W = w') := fun W => refInverse_any n (by omega) hI.2 W
  have C4 : Hid (∀ W, Calls Tryd.prog 18 #[.int .i64 (invT n), .int .i64 1, .int .i64 65536] W fun e w' => e = .returned (.bool true) ∧ W = w') := fun W => by
    have := within_any (invT n) 1 65536 W
    rw [show inB (invT n) 1 65536 = true by simp [inB]; omega] at this
    exact this
  obtain ⟨iv, hiv⟩ : ∃ iv, invT n = iv := ⟨_, rfl⟩
  rw [hiv] at C1 C3 C4 hprod hrem hiv1 hiv2
  clear hiv hI
  obtain ⟨_, hk12, hX, hc1, hc2⟩ := datE_parts hE
  obtain ⟨K, rfl⟩ : ∃ K : Nat, count = (K : Int) := ⟨count.toNat, by omega⟩
  have CP : Hid (∀ W A3 c3, RdD W A3 k ds → Calls Tryd.prog 14 #[.slice A3 k c3, .int .i64 (K : Int)] W fun e w' => ∃ A5 c5, e = .returned (.tuple #[.slice A5 K c5, .int .i64 0]) ∧ RdD w' A5 K (parL k ds K) ∧ Below W.heap.size W w') := fun W A3 c3 h => (parityOf_ok A3 k c3 ds K W h hE K rfl).mono (by
    rintro e w' ⟨⟨A5, c5, rfl, h5⟩, hb⟩
    exact ⟨A5, c5, rfl, h5, hb⟩)
  have CRP : Hid (∀ W, RdD W A k ds → Calls Tryd.prog 21 #[.slice A k cp, .int .i64 (K : Int)] W fun e w' => ∃ A5 c5, e = .returned (.slice A5 K c5) ∧ RdD w' A5 K (parL k ds K) ∧ Below W.heap.size W w') := fun W h => (refParityOf_any A k cp ds K W h hX (by omega) (by omega)).mono (by
    rintro e w' ⟨⟨A5, c5, rfl, h5⟩, hb⟩
    exact ⟨A5, c5, rfl, h5, hb⟩)
  have CSD : Hid (∀ W A B ca cb, RdD W A K (parL k ds K) → RdD W B K (parL k ds K) → Calls Tryd.prog 20 #[.slice A K ca, .slice B K cb] W fun e w' => e = .returned (.bool true) ∧ ∃ j, w' = W.drewN j) := fun W A B ca cb h1 h2 => sameData_any A B K ca cb _ W h1 h2 (by omega)
  rw [hE] at CDE
  obtain ⟨ps, hps⟩ : ∃ ps, parL k ds K = ps := ⟨_, rfl⟩
  rw [hps] at CP CRP CSD
  clear hps hX hE
  clear hw hr hA
  go_enter Tryd.func4, Tryd.ntmps4
  go_wp2_with fail
  refine (awake_any _ HW.out).mono ?_
  rintro e w2 ⟨rfl, hb2⟩
  have L2 := Lib.hid hb2
  have R2 := Lib.hid (HR.out.below hb2)
  clear hb2
  go_wp2_with fail
  refine (C1.out _).mono ?_
  rintro e w3 ⟨rfl, hb3⟩
  have L3 : Hid (Below w.heap.size w w3) := L2.out.trans (hb3.mono L2.out.size)
  have R3 := Lib.hid (R2.out.below hb3)
  clear hb3 L2 R2
  go_wp2_with fail
  refine (CC.out _ R3.out).mono ?_
  rintro e w4 ⟨A4, c4, rfl, _, hr4, hb4⟩
  have L4 : Hid (Below w.heap.size w w4) := L3.out.trans (hb4.mono L3.out.size)
  have R4 := Lib.hid (R3.out.below hb4)
  have Q4 := Lib.hid hr4
  clear hb4 L3 R3 hr4
  go_wp2_with fail
  refine (CP.out _ _ _ Q4.out).mono ?_
  rintro e w5 ⟨A5, c5, rfl, hr5, hb5⟩
  have Q5 := Lib.hid hr5
  clear hr5
  have L5 : Hid (Below w.heap.size w w5) := L4.out.trans (hb5.mono L4.out.size)
  have R5 := Lib.hid (R4.out.below hb5)
  clear hb5 L4 R4 Q4
  go_wp2_with (first
    | (go_at_call 16; refine (C2.out _).mono ?_; rintro e w' ⟨rfl, rfl⟩)
    | (go_at_call 17; refine (C3.out _).mono ?_; rintro e w' ⟨rfl, rfl⟩)
    | (go_at_call 18; refine (C4.out _).mono ?_; rintro e w' ⟨rfl, rfl⟩)
    | (go_at_call 19; refine (CDE.out _ R5.out).mono ?_; rintro e w6 ⟨rfl, hb6⟩))
  have L6 : Hid (Below w.heap.size w w6) := L5.out.trans (hb6.mono L5.out.size)
  have R6 := Lib.hid (R5.out.below hb6)
  have Q6 := Lib.hid (Q5.out.below hb6)
  clear hb6 L5 R5 Q5
  go_wp2_with fail
  refine (CRP.out _ R6.out).mono ?_
  rintro e w7 ⟨A7, c7, rfl, hr7, hb7⟩
  have L7 : Hid (Below w.heap.size w w7) := L6.out.trans (hb7.mono L6.out.size)
  have Q7 := Lib.hid (Q6.out.below hb7)
  have P7 := Lib.hid hr7
  clear hb7 hr7 L6 R6 Q6
  go_wp2_with fail
  refine (CSD.out _ _ _ _ _ Q7.out P7.out).mono ?_
  rintro e w8 ⟨rfl, ⟨j8, rfl⟩⟩
  go_wp2
  go_ret
  exact ⟨rfl, belowDrewN L7.out _⟩

set_option maxRecDepth 100000 in
set_option maxHeartbeats 1000000 in
theorem par_ok_err (n : Int) (A : Option Addr) (k cp : Nat) (ds : List (List Int)) (count : Int) (w : World) (hw : Laid w) (hA : A = none → k = 0 ∧ cp = 0) (hr : RdD w A k ds) (hk : k ≤ 14)
    (hI : 1 ≤ n ∧ n ≤ 65536) (hE : datE k ds count ≠ 0) :
    Calls Tryd.prog 4 #[.int .i64 n, .slice A k cp, .int .i64 count] w fun e w' => e = .returned (.bool true) ∧ Below w.heap.size w w' := by
  have HW := Lib.hid hw
  have HR := Lib.hid hr
  have hkI : ¬ (14 : Int) < (k : Int) := by omega
  have CC : Hid (∀ W, RdD W A k ds → Calls Tryd.prog 15 #[.slice A k cp] W fun e w' => ∃ A3 c3, e = .returned (.slice A3 k c3) ∧ (A3 = none → k = 0 ∧ c3 = 0) ∧ RdD w' A3 k ds ∧ Below W.heap.size W w') := fun W h => copyData_any A k cp ds W hA h (by omega)
  have CDE : Hid (∀ W, RdD W A k ds → Calls Tryd.prog 19 #[.slice A k cp, .int .i64 count] W fun e w' => e = .returned (.int .i64 (datE k ds count)) ∧ Below W.heap.size W w') := fun W h => dataErr_any A k cp ds count W h (by omega)
  have hprod := mul_bd2 n (invT n) 65536 65536 (by omega) (invT_bd n).1 hI.2 (by have := (invT_bd n).2; omega)
  have hrem : (n * invT n).tmod 65537 = 1 := by rw [Int.tmod_eq_emod_of_nonneg hprod.1]; exact invT_mul n hI.1 hI.2
  have hiv1 := invT_pos n hI.1 hI.2
  have hiv2 : invT n ≤ 65536 := by have := (invT_bd n).2; omega
  have C1 : Hid (∀ W, Calls Tryd.prog 13 #[.int .i64 n] W fun e w' => e = .returned (.tuple #[.int .i64 (invT n), .int .i64 0]) ∧ Below W.heap.size W w') := fun W => inverse_ok n hI.1 hI.2 W
  have C2 : Hid (∀ W, Calls Tryd.prog 16 #[.int .i64 n] W fun e w' => e = .returned (.int .i64 0) ∧ W = w') := fun W => by
    have := inverseErr_any n W
    rw [show invE n = 0 by unfold invE; rw [if_pos (show inB n 0 65536 = true by simp [inB]; omega), if_neg (by omega)]] at this
    exact this
  have C3 : Hid (∀ W, Calls Tryd.prog 17 #[.int .i64 n] W fun e w' => e = .returned (.int .i64 (invT n)) ∧ W = w') := fun W => refInverse_any n (by omega) hI.2 W
  have C4 : Hid (∀ W, Calls Tryd.prog 18 #[.int .i64 (invT n), .int .i64 1, .int .i64 65536] W fun e w' => e = .returned (.bool true) ∧ W = w') := fun W => by
    have := within_any (invT n) 1 65536 W
    rw [show inB (invT n) 1 65536 = true by simp [inB]; omega] at this
    exact this
  obtain ⟨iv, hiv⟩ : ∃ iv, invT n = iv := ⟨_, rfl⟩
  rw [hiv] at C1 C3 C4 hprod hrem hiv1 hiv2
  clear hiv hI
  have CP : Hid (∀ W A3 c3, RdD W A3 k ds → Calls Tryd.prog 14 #[.slice A3 k c3, .int .i64 count] W fun e w' => e = .returned (.tuple #[.slice none 0 0, .int .i64 (datE k ds count)]) ∧ Below W.heap.size W w') := fun W A3 c3 h => parityOf_err A3 k c3 ds count W h (by omega) hE
  obtain ⟨dE, hdE⟩ : ∃ dE, datE k ds count = dE := ⟨_, rfl⟩
  rw [hdE] at CP CDE hE
  have hDb : (dE == 0) = false := by simpa using hE
  clear hdE hE
  clear hw hr hA
  go_enter Tryd.func4, Tryd.ntmps4
  go_wp2_with fail
  refine (awake_any _ HW.out).mono ?_
  rintro e w2 ⟨rfl, hb2⟩
  have L2 := Lib.hid hb2
  have R2 := Lib.hid (HR.out.below hb2)
  clear hb2
  go_wp2_with fail
  refine (C1.out _).mono ?_
  rintro e w3 ⟨rfl, hb3⟩
  have L3 : Hid (Below w.heap.size w w3) := L2.out.trans (hb3.mono L2.out.size)
  have R3 := Lib.hid (R2.out.below hb3)
  clear hb3 L2 R2
  go_wp2_with fail
  refine (CC.out _ R3.out).mono ?_
  rintro e w4 ⟨A4, c4, rfl, _, hr4, hb4⟩
  have L4 : Hid (Below w.heap.size w w4) := L3.out.trans (hb4.mono L3.out.size)
  have R4 := Lib.hid (R3.out.below hb4)
  have Q4 := Lib.hid hr4
  clear hb4 L3 R3 hr4
  go_wp2_with fail
  refine (CP.out _ _ _ Q4.out).mono ?_
  rintro e w5 ⟨rfl, hb5⟩
  have L5 : Hid (Below w.heap.size w w5) := L4.out.trans (hb5.mono L4.out.size)
  have R5 := Lib.hid (R4.out.below hb5)
  clear hb5 L4 R4 Q4
  go_wp2_with (first
    | (go_at_call 16; refine (C2.out _).mono ?_; rintro e w' ⟨rfl, rfl⟩)
    | (go_at_call 17; refine (C3.out _).mono ?_; rintro e w' ⟨rfl, rfl⟩)
    | (go_at_call 18; refine (C4.out _).mono ?_; rintro e w' ⟨rfl, rfl⟩)
    | (go_at_call 19; refine (CDE.out _ R5.out).mono ?_; rintro e w6 ⟨rfl, hb6⟩))
  have L6 : Hid (Below w.heap.size w w6) := L5.out.trans (hb6.mono L5.out.size)
  clear hb6 L5
  go_wp2
  go_ret
  exact ⟨rfl, L6.out⟩

set_option maxRecDepth 100000 in
set_option maxHeartbeats 1000000 in
theorem par_err_ok (n : Int) (A : Option Addr) (k cp : Nat) (ds : List (List Int)) (count : Int) (w : World) (hw : Laid w) (hA : A = none → k = 0 ∧ cp = 0) (hr : RdD w A k ds) (hk : k ≤ 14)
    (hI : invE n ≠ 0) (hE : datE k ds count = 0) :
    Calls Tryd.prog 4 #[.int .i64 n, .slice A k cp, .int .i64 count] w fun e w' => e = .returned (.bool true) ∧ Below w.heap.size w w' := by
  have HW := Lib.hid hw
  have HR := Lib.hid hr
  have hkI : ¬ (14 : Int) < (k : Int) := by omega
  have CC : Hid (∀ W, RdD W A k ds → Calls Tryd.prog 15 #[.slice A k cp] W fun e w' => ∃ A3 c3, e = .returned (.slice A3 k c3) ∧ (A3 = none → k = 0 ∧ c3 = 0) ∧ RdD w' A3 k ds ∧ Below W.heap.size W w') := fun W h => copyData_any A k cp ds W hA h (by omega)
  have CDE : Hid (∀ W, RdD W A k ds → Calls Tryd.prog 19 #[.slice A k cp, .int .i64 count] W fun e w' => e = .returned (.int .i64 (datE k ds count)) ∧ Below W.heap.size W w') := fun W h => dataErr_any A k cp ds count W h (by omega)
  have C1 : Hid (∀ W, Calls Tryd.prog 13 #[.int .i64 n] W fun e w' => e = .returned (.tuple #[.int .i64 0, .int .i64 (invE n)]) ∧ Below W.heap.size W w') := fun W => inverse_err n W hI
  have C2 : Hid (∀ W, Calls Tryd.prog 16 #[.int .i64 n] W fun e w' => e = .returned (.int .i64 (invE n)) ∧ W = w') := fun W => inverseErr_any n W
  obtain ⟨iE, hiE⟩ : ∃ iE, invE n = iE := ⟨_, rfl⟩
  rw [hiE] at C1 C2 hI
  have hIb : (iE == 0) = false := by simpa using hI
  clear hiE hI
  obtain ⟨_, hk12, hX, hc1, hc2⟩ := datE_parts hE
  obtain ⟨K, rfl⟩ : ∃ K : Nat, count = (K : Int) := ⟨count.toNat, by omega⟩
  have CP : Hid (∀ W A3 c3, RdD W A3 k ds → Calls Tryd.prog 14 #[.slice A3 k c3, .int .i64 (K : Int)] W fun e w' => ∃ A5 c5, e = .returned (.tuple #[.slice A5 K c5, .int .i64 0]) ∧ RdD w' A5 K (parL k ds K) ∧ Below W.heap.size W w') := fun W A3 c3 h => (parityOf_ok A3 k c3 ds K W h hE K rfl).mono (by
    rintro e w' ⟨⟨A5, c5, rfl, h5⟩, hb⟩
    exact ⟨A5, c5, rfl, h5, hb⟩)
  have CRP : Hid (∀ W, RdD W A k ds → Calls Tryd.prog 21 #[.slice A k cp, .int .i64 (K : Int)] W fun e w' => ∃ A5 c5, e = .returned (.slice A5 K c5) ∧ RdD w' A5 K (parL k ds K) ∧ Below W.heap.size W w') := fun W h => (refParityOf_any A k cp ds K W h hX (by omega) (by omega)).mono (by
    rintro e w' ⟨⟨A5, c5, rfl, h5⟩, hb⟩
    exact ⟨A5, c5, rfl, h5, hb⟩)
  have CSD : Hid (∀ W A B ca cb, RdD W A K (parL k ds K) → RdD W B K (parL k ds K) → Calls Tryd.prog 20 #[.slice A K ca, .slice B K cb] W fun e w' => e = .returned (.bool true) ∧ ∃ j, w' = W.drewN j) := fun W A B ca cb h1 h2 => sameData_any A B K ca cb _ W h1 h2 (by omega)
  rw [hE] at CDE
  obtain ⟨ps, hps⟩ : ∃ ps, parL k ds K = ps := ⟨_, rfl⟩
  rw [hps] at CP CRP CSD
  clear hps hX hE
  clear hw hr hA
  go_enter Tryd.func4, Tryd.ntmps4
  go_wp2_with fail
  refine (awake_any _ HW.out).mono ?_
  rintro e w2 ⟨rfl, hb2⟩
  have L2 := Lib.hid hb2
  have R2 := Lib.hid (HR.out.below hb2)
  clear hb2
  go_wp2_with fail
  refine (C1.out _).mono ?_
  rintro e w3 ⟨rfl, hb3⟩
  have L3 : Hid (Below w.heap.size w w3) := L2.out.trans (hb3.mono L2.out.size)
  have R3 := Lib.hid (R2.out.below hb3)
  clear hb3 L2 R2
  go_wp2_with fail
  refine (CC.out _ R3.out).mono ?_
  rintro e w4 ⟨A4, c4, rfl, _, hr4, hb4⟩
  have L4 : Hid (Below w.heap.size w w4) := L3.out.trans (hb4.mono L3.out.size)
  have R4 := Lib.hid (R3.out.below hb4)
  have Q4 := Lib.hid hr4
  clear hb4 L3 R3 hr4
  go_wp2_with fail
  refine (CP.out _ _ _ Q4.out).mono ?_
  rintro e w5 ⟨A5, c5, rfl, hr5, hb5⟩
  have Q5 := Lib.hid hr5
  clear hr5
  have L5 : Hid (Below w.heap.size w w5) := L4.out.trans (hb5.mono L4.out.size)
  have R5 := Lib.hid (R4.out.below hb5)
  clear hb5 L4 R4 Q4
  go_wp2_with (first
    | (go_at_call 16; refine (C2.out _).mono ?_; rintro e w' ⟨rfl, rfl⟩)
    | (go_at_call 19; refine (CDE.out _ R5.out).mono ?_; rintro e w6 ⟨rfl, hb6⟩))
  have L6 : Hid (Below w.heap.size w w6) := L5.out.trans (hb6.mono L5.out.size)
  have R6 := Lib.hid (R5.out.below hb6)
  have Q6 := Lib.hid (Q5.out.below hb6)
  clear hb6 L5 R5 Q5
  go_wp2_with fail
  refine (CRP.out _ R6.out).mono ?_
  rintro e w7 ⟨A7, c7, rfl, hr7, hb7⟩
  have L7 : Hid (Below w.heap.size w w7) := L6.out.trans (hb7.mono L6.out.size)
  have Q7 := Lib.hid (Q6.out.below hb7)
  have P7 := Lib.hid hr7
  clear hb7 hr7 L6 R6 Q6
  go_wp2_with fail
  refine (CSD.out _ _ _ _ _ Q7.out P7.out).mono ?_
  rintro e w8 ⟨rfl, ⟨j8, rfl⟩⟩
  go_wp2
  go_ret
  exact ⟨rfl, belowDrewN L7.out _⟩

set_option maxRecDepth 100000 in
set_option maxHeartbeats 1000000 in
theorem par_err_err (n : Int) (A : Option Addr) (k cp : Nat) (ds : List (List Int)) (count : Int) (w : World) (hw : Laid w) (hA : A = none → k = 0 ∧ cp = 0) (hr : RdD w A k ds) (hk : k ≤ 14)
    (hI : invE n ≠ 0) (hE : datE k ds count ≠ 0) :
    Calls Tryd.prog 4 #[.int .i64 n, .slice A k cp, .int .i64 count] w fun e w' => e = .returned (.bool true) ∧ Below w.heap.size w w' := by
  have HW := Lib.hid hw
  have HR := Lib.hid hr
  have hkI : ¬ (14 : Int) < (k : Int) := by omega
  have CC : Hid (∀ W, RdD W A k ds → Calls Tryd.prog 15 #[.slice A k cp] W fun e w' => ∃ A3 c3, e = .returned (.slice A3 k c3) ∧ (A3 = none → k = 0 ∧ c3 = 0) ∧ RdD w' A3 k ds ∧ Below W.heap.size W w') := fun W h => copyData_any A k cp ds W hA h (by omega)
  have CDE : Hid (∀ W, RdD W A k ds → Calls Tryd.prog 19 #[.slice A k cp, .int .i64 count] W fun e w' => e = .returned (.int .i64 (datE k ds count)) ∧ Below W.heap.size W w') := fun W h => dataErr_any A k cp ds count W h (by omega)
  have C1 : Hid (∀ W, Calls Tryd.prog 13 #[.int .i64 n] W fun e w' => e = .returned (.tuple #[.int .i64 0, .int .i64 (invE n)]) ∧ Below W.heap.size W w') := fun W => inverse_err n W hI
  have C2 : Hid (∀ W, Calls Tryd.prog 16 #[.int .i64 n] W fun e w' => e = .returned (.int .i64 (invE n)) ∧ W = w') := fun W => inverseErr_any n W
  obtain ⟨iE, hiE⟩ : ∃ iE, invE n = iE := ⟨_, rfl⟩
  rw [hiE] at C1 C2 hI
  have hIb : (iE == 0) = false := by simpa using hI
  clear hiE hI
  have CP : Hid (∀ W A3 c3, RdD W A3 k ds → Calls Tryd.prog 14 #[.slice A3 k c3, .int .i64 count] W fun e w' => e = .returned (.tuple #[.slice none 0 0, .int .i64 (datE k ds count)]) ∧ Below W.heap.size W w') := fun W A3 c3 h => parityOf_err A3 k c3 ds count W h (by omega) hE
  obtain ⟨dE, hdE⟩ : ∃ dE, datE k ds count = dE := ⟨_, rfl⟩
  rw [hdE] at CP CDE hE
  have hDb : (dE == 0) = false := by simpa using hE
  clear hdE hE
  clear hw hr hA
  go_enter Tryd.func4, Tryd.ntmps4
  go_wp2_with fail
  refine (awake_any _ HW.out).mono ?_
  rintro e w2 ⟨rfl, hb2⟩
  have L2 := Lib.hid hb2
  have R2 := Lib.hid (HR.out.below hb2)
  clear hb2
  go_wp2_with fail
  refine (C1.out _).mono ?_
  rintro e w3 ⟨rfl, hb3⟩
  have L3 : Hid (Below w.heap.size w w3) := L2.out.trans (hb3.mono L2.out.size)
  have R3 := Lib.hid (R2.out.below hb3)
  clear hb3 L2 R2
  go_wp2_with fail
  refine (CC.out _ R3.out).mono ?_
  rintro e w4 ⟨A4, c4, rfl, _, hr4, hb4⟩
  have L4 : Hid (Below w.heap.size w w4) := L3.out.trans (hb4.mono L3.out.size)
  have R4 := Lib.hid (R3.out.below hb4)
  have Q4 := Lib.hid hr4
  clear hb4 L3 R3 hr4
  go_wp2_with fail
  refine (CP.out _ _ _ Q4.out).mono ?_
  rintro e w5 ⟨rfl, hb5⟩
  have L5 : Hid (Below w.heap.size w w5) := L4.out.trans (hb5.mono L4.out.size)
  have R5 := Lib.hid (R4.out.below hb5)
  clear hb5 L4 R4 Q4
  go_wp2_with (first
    | (go_at_call 16; refine (C2.out _).mono ?_; rintro e w' ⟨rfl, rfl⟩)
    | (go_at_call 19; refine (CDE.out _ R5.out).mono ?_; rintro e w6 ⟨rfl, hb6⟩))
  have L6 : Hid (Below w.heap.size w w6) := L5.out.trans (hb6.mono L5.out.size)
  clear hb6 L5
  go_wp2
  go_ret
  exact ⟨rfl, L6.out⟩

theorem parities_walk (n : Int) (A : Option Addr) (k cp : Nat) (ds : List (List Int)) (count : Int) (w : World) (hw : Laid w) (hA : A = none → k = 0 ∧ cp = 0) (hr : RdD w A k ds) :
    Calls Tryd.prog 4 #[.int .i64 n, .slice A k cp, .int .i64 count] w fun e w' => e = .returned (.bool true) ∧ Below w.heap.size w w' := by
  by_cases hk : 14 < k
  · exact par_long n A k cp count w hw hk
  by_cases hI : invE n = 0
  · have hI2 : 1 ≤ n ∧ n ≤ 65536 := by
      unfold invE at hI
      split at hI
      · rename_i h1
        split at hI
        · cases hI
        · have : 0 ≤ n ∧ n ≤ 65536 := by simp [inB] at h1; omega
          omega
      · cases hI
    by_cases hE : datE k ds count = 0
    · exact par_ok_ok n A k cp ds count w hw hA hr (by omega) hI2 hE
    · exact par_ok_err n A k cp ds count w hw hA hr (by omega) hI2 hE
  · by_cases hE : datE k ds count = 0
    · exact par_err_ok n A k cp ds count w hw hA hr (by omega) hI hE
    · exact par_err_err n A k cp ds count w hw hA hr (by omega) hI hE

end Go.Proofs.YtmeddnpahkigeaaDoor
