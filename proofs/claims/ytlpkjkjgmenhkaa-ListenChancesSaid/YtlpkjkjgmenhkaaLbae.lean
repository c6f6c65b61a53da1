import Derived.Test.YtlpkjkjgmenhkaaLbad
import Derived.Test.YtlpkjkjgmenhkaaLbaa
import Derived.Test.YtlpkjkjgmenhkaaRows
import Derived.ProofKit
import Derived.OpenShut
import Derived.Deep.Slices
namespace Go.Proofs.Ytlpkjkjgmenhkaa
open Go.RowKit

open Go.Shelf
attribute [local go_sem] undef

set_option maxRecDepth 100000 in
set_option maxHeartbeats 8000000 in
theorem chances_p0 (t r : Nat) (n d : Int) (w : World) (aN aD : Int) (s q : Nat) (bN bD cN cD X1 X2 X3 Y cv : Int) (uN uD cu : Int)
    (hr : 0 < r)
    (C3 : Hid (∀ w, Calls Try.prog 18 #[.int .i64 t, .int .i64 r] w fun e w' => e = .returned (.int .i64 0) ∧ w = w'))
    (D2 : Hid (∀ w, Calls Try.prog 21 #[.agg #[.int .i64 n, .int .i64 d]] w fun e w' => e = .returned (.int .i64 0) ∧ Below w.heap.size w w'))
    (T0 : Hid (∀ w, Calls Try.prog 16 #[.int .i64 t, .int .i64 0] w fun e w' => e = .returned (.tuple #[.agg #[.int .i64 1, .int .i64 1], .int .i64 0]) ∧ Below w.heap.size w w'))
    (TA : Hid (∀ w, Calls Try.prog 16 #[.int .i64 t, .int .i64 r] w fun e w' => e = .returned (.tuple #[.agg #[.int .i64 aN, .int .i64 aD], .int .i64 0]) ∧ Below w.heap.size w w'))
    (FA : Hid (FracOk aN aD))
    (MR : Hid (∀ w, Calls Try.prog 17 #[.int .i64 t, .agg #[.int .i64 n, .int .i64 d]] w fun e w' => e = .returned (.tuple #[.int .i64 0, .int .i64 0]) ∧ Below w.heap.size w w'))
    (TB : Hid (∀ w, Calls Try.prog 16 #[.int .i64 t, .int .i64 s] w fun e w' => e = .returned (.tuple #[.agg #[.int .i64 bN, .int .i64 bD], .int .i64 0]) ∧ Below w.heap.size w w'))
    (TC : Hid (∀ w, Calls Try.prog 16 #[.int .i64 t, .int .i64 q] w fun e w' => e = .returned (.tuple #[.agg #[.int .i64 cN, .int .i64 cD], .int .i64 0]) ∧ Below w.heap.size w w'))
    (FB : Hid (FracOk bN bD))
    (FC : Hid (FracOk cN cD))
    (hw1 : IntKind.i64.wrap ((t : Int) + 1) = (t : Int) + 1) (hw2 : IntKind.i64.wrap ((t : Int) + 1 - (r : Int)) = (s : Int)) (hw3 : IntKind.i64.wrap ((r : Int) - 1) = (q : Int))
    (hm1 : IntKind.i64.wrap (aN * bD) = X1) (hm2 : IntKind.i64.wrap (bN * aD) = X2) (hm3 : IntKind.i64.wrap (X1 + X2) = X3) (hm4 : IntKind.i64.wrap (aD * bD) = Y) (hcv : ¬ cv < 0)
    (CL : Hid (∀ w, Calls Try.prog 26 #[.int .i64 X3, .int .i64 Y] w fun e w' => e = .returned (.agg #[.int .i64 1, .int .i64 1]) ∧ Below w.heap.size w w'))
    (CC : Hid (∀ w, Calls Try.prog 27 #[.agg #[.int .i64 cN, .int .i64 cD], .agg #[.int .i64 aN, .int .i64 aD]] w fun e w' => e = .returned (.int .i64 cv) ∧ Below w.heap.size w w'))
    (WI : Hid (∀ w, Calls Try.prog 28 #[.int .i64 0, .int .i64 0, .int .i64 t] w fun e w' => e = .returned (.bool true) ∧ w = w'))
    (TU : Hid (∀ w, Calls Try.prog 16 #[.int .i64 t, .int .i64 0] w fun e w' => e = .returned (.tuple #[.agg #[.int .i64 uN, .int .i64 uD], .int .i64 0]) ∧ Below w.heap.size w w'))
    (FU : Hid (FracOk uN uD))
    (CU : Hid (∀ w, Calls Try.prog 27 #[.agg #[.int .i64 uN, .int .i64 uD], .agg #[.int .i64 n, .int .i64 d]] w fun e w' => e = .returned (.int .i64 cu) ∧ Below w.heap.size w w'))
    (hcu : ¬ 0 < cu) :
    Calls Try.prog 4 #[.int .i64 t, .int .i64 r, .agg #[.int .i64 n, .int .i64 d]] w fun e w' => e = .returned (.bool true) ∧ Below w.heap.size w w' := by
  have hrI : (0 : Int) < (r : Int) := by omega
  obtain ⟨FA1, FA2⟩ := FA.out
  replace FA1 := Lib.hid FA1
  replace FA2 := Lib.hid FA2
  obtain ⟨FB1, FB2⟩ := FB.out
  replace FB1 := Lib.hid FB1
  replace FB2 := Lib.hid FB2
  obtain ⟨FC1, FC2⟩ := FC.out
  replace FC1 := Lib.hid FC1
  replace FC2 := Lib.hid FC2
  obtain ⟨FU1, FU2⟩ := FU.out
  replace FU1 := Lib.hid FU1
  replace FU2 := Lib.hid FU2
  have CW := Lib.hid (fun w => bWhole_any 1 w)
  have R0 := Lib.hid (OneB.start w 23 #[.int .i64 n, .int .i64 d])
  go_enter Try.func4, Try.ntmps4
  have cc0 := bkf2 R0.out.k
  go_wp2_with fail
  clear cc0 
  refine (awake_any _).mono ?_
  rintro e w' ⟨rfl, hb⟩
  have R1 := Lib.hid (OneB.later hb R0.out)
  clear hb R0 
  have cc0 := bkf2 R1.out.k
  go_wp2_with fail
  clear cc0 
  refine (C3.out _).mono ?_
  rintro e w' ⟨rfl, rfl⟩
  have cc0 := bkf2 R1.out.k
  go_wp2_with fail
  clear cc0 
  refine (D2.out _).mono ?_
  rintro e w' ⟨rfl, hb⟩
  have R2 := Lib.hid (OneB.later hb R1.out)
  clear hb R1 
  have cc0 := bkf2 R2.out.k
  go_wp2_with fail
  clear cc0 
  refine (T0.out _).mono ?_
  rintro e wt3 ⟨rfl, hb⟩
  have R3 := Lib.hid (OneB.alloc (OneB.later hb R2.out) (.cells #[.int .i64 1, .int .i64 1] 23))
  have K3 := Lib.hid (Bk.new wt3 23 #[.int .i64 1, .int .i64 1])
  clear hb R2 
  have cc0 := bkf2 R3.out.k
  have ccK := bkf2 K3.out
  go_wp2_with fail
  clear cc0 ccK
  obtain ⟨gK, hgK⟩ : ∃ g, wt3.heap.size = g := ⟨_, rfl⟩
  obtain ⟨wa3, hwa3⟩ : ∃ W, wt3.alloc (.cells #[.int .i64 1, .int .i64 1] 23) = W := ⟨_, rfl⟩
  rw [hwa3] at R3 K3 ⊢
  rw [hgK] at K3 ⊢
  clear hwa3 hgK
  refine (TA.out _).mono ?_
  rintro e wt4 ⟨rfl, hb⟩
  have R4 := Lib.hid (OneB.alloc (OneB.later hb R3.out) (.cells #[.int .i64 aN, .int .i64 aD] 23))
  have K4 := Lib.hid ((K3.out.later hb).alloc (.cells #[.int .i64 aN, .int .i64 aD] 23))
  have A4 := Lib.hid (Bk.new wt4 23 #[.int .i64 aN, .int .i64 aD])
  clear hb R3 K3
  have cc0 := bkf2 R4.out.k
  have ccK := bkf2 K4.out
  have ccA := bkf2 A4.out
  go_wp2
  clear cc0 ccK ccA
  obtain ⟨gA, hgA⟩ : ∃ g, wt4.heap.size = g := ⟨_, rfl⟩
  obtain ⟨wa4, hwa4⟩ : ∃ W, wt4.alloc (.cells #[.int .i64 aN, .int .i64 aD] 23) = W := ⟨_, rfl⟩
  rw [hwa4] at R4 K4 A4 ⊢
  rw [hgA] at A4 ⊢
  clear hwa4 hgA
  have hBB : Below wa4.heap.size wa4 wa4 := Below.refl _ _
  have HC : Hid (∀ W, Below wa4.heap.size wa4 W → (W.cell? ⟨gK, 0, none⟩ = some (.int .i64 1) ∧ W.cell? ⟨gK, 1, none⟩ = some (.int .i64 1)) ∧ (W.cell? ⟨gA, 0, none⟩ = some (.int .i64 aN) ∧ W.cell? ⟨gA, 1, none⟩ = some (.int .i64 aD))) := fun W hb => ⟨bkf2 (K4.out.later hb), bkf2 (A4.out.later hb)⟩
  first | (go_region_held3 (fun w' : World => ((w'.cell? ⟨gK, 0, none⟩ = some (.int .i64 1) ∧ w'.cell? ⟨gK, 1, none⟩ = some (.int .i64 1)) ∧ (w'.cell? ⟨gA, 0, none⟩ = some (.int .i64 aN) ∧ w'.cell? ⟨gA, 1, none⟩ = some (.int .i64 aD))) ∧ Below wa4.heap.size wa4 w') ((refine (fun hI => ⟨HC.out _ hI, hI⟩) ?_; repeat (first | with_reducible assumption | (go_split_ands; with_reducible assumption) | with_reducible refine belowA ?_ _ | with_reducible refine Below.drew ?_))) (first | (go_at_call 23; ((with_reducible refine (CW.out _).mono ?_)); rintro e wx ⟨rfl, hbwx⟩; have hbwx' : Below wa4.heap.size wa4 wx := Below.trans (by first | assumption | (go_split_ands; assumption)) (hbwx.mono (Below.size (by first | assumption | (go_split_ands; assumption)))); clear hbwx) | (go_at_call 24; ((with_reducible refine (FA1.out _).mono ?_)); rintro e wy ⟨rfl, hbwy⟩; have hbwy' : Below wa4.heap.size wa4 wy := Below.trans (by first | assumption | (go_split_ands; assumption)) (hbwy.mono (Below.size (by first | assumption | (go_split_ands; assumption)))); clear hbwy) | (go_at_call 25; ((with_reducible refine (FA2.out _).mono ?_)); rintro e wz ⟨rfl, hbwz⟩; have hbwz' : Below wa4.heap.size wa4 wz := Below.trans (by first | assumption | (go_split_ands; assumption)) (hbwz.mono (Below.size (by first | assumption | (go_split_ands; assumption)))); clear hbwz))) | fail
  all_goals
    have R5 := Lib.hid (OneB.later hbwz' R4.out)
    have K5 := Lib.hid (K4.out.later hbwz')
    have A5 := Lib.hid (A4.out.later hbwz')
    clear hbwz' hbwy' hbwx' hBB HC R4 K4 A4
    have cc0 := bkf2 R5.out.k
    have ccK := bkf2 K5.out
    have ccA := bkf2 A5.out
    go_wp2_with fail
    clear cc0 ccK ccA
    refine (TB.out _).mono ?_
    rintro e wt6 ⟨rfl, hb⟩
    have R6 := Lib.hid (OneB.alloc (OneB.later hb R5.out) (.cells #[.int .i64 bN, .int .i64 bD] 23))
    have K6 := Lib.hid ((K5.out.later hb).alloc (.cells #[.int .i64 bN, .int .i64 bD] 23))
    have A6 := Lib.hid ((A5.out.later hb).alloc (.cells #[.int .i64 bN, .int .i64 bD] 23))
    have B6 := Lib.hid (Bk.new wt6 23 #[.int .i64 bN, .int .i64 bD])
    clear hb R5 K5 A5
    have cc0 := bkf2 R6.out.k
    have ccK := bkf2 K6.out
    have ccA := bkf2 A6.out
    have ccB := bkf2 B6.out
    go_wp2_with fail
    clear cc0 ccK ccA ccB
    obtain ⟨gB, hgB⟩ : ∃ g, wt6.heap.size = g := ⟨_, rfl⟩
    obtain ⟨wa6, hwa6⟩ : ∃ W, wt6.alloc (.cells #[.int .i64 bN, .int .i64 bD] 23) = W := ⟨_, rfl⟩
    rw [hwa6] at R6 K6 A6 B6 ⊢
    rw [hgB] at B6 ⊢
    clear hwa6 hgB
    refine (TC.out _).mono ?_
    rintro e wt7 ⟨rfl, hb⟩
    have R7 := Lib.hid (OneB.alloc (OneB.later hb R6.out) (.cells #[.int .i64 cN, .int .i64 cD] 23))
    have K7 := Lib.hid ((K6.out.later hb).alloc (.cells #[.int .i64 cN, .int .i64 cD] 23))
    have A7 := Lib.hid ((A6.out.later hb).alloc (.cells #[.int .i64 cN, .int .i64 cD] 23))
    have B7 := Lib.hid ((B6.out.later hb).alloc (.cells #[.int .i64 cN, .int .i64 cD] 23))
    have C7 := Lib.hid (Bk.new wt7 23 #[.int .i64 cN, .int .i64 cD])
    clear hb R6 K6 A6 B6
    have cc0 := bkf2 R7.out.k
    have ccK := bkf2 K7.out
    have ccA := bkf2 A7.out
    have ccB := bkf2 B7.out
    have ccC := bkf2 C7.out
    go_wp2_with fail
    clear cc0 ccK ccA ccB ccC
    obtain ⟨gC, hgC⟩ : ∃ g, wt7.heap.size = g := ⟨_, rfl⟩
    obtain ⟨wa7, hwa7⟩ : ∃ W, wt7.alloc (.cells #[.int .i64 cN, .int .i64 cD] 23) = W := ⟨_, rfl⟩
    rw [hwa7] at R7 K7 A7 B7 C7 ⊢
    rw [hgC] at C7 ⊢
    clear hwa7 hgC
    refine (FB1.out _).mono ?_
    rintro e w' ⟨rfl, hb⟩
    have R8 := Lib.hid (OneB.later hb R7.out)
    have K8 := Lib.hid (K7.out.later hb)
    have A8 := Lib.hid (A7.out.later hb)
    have B8 := Lib.hid (B7.out.later hb)
    have C8 := Lib.hid (C7.out.later hb)
    clear hb R7 K7 A7 B7 C7
    have cc0 := bkf2 R8.out.k
    have ccK := bkf2 K8.out
    have ccA := bkf2 A8.out
    have ccB := bkf2 B8.out
    have ccC := bkf2 C8.out
    go_wp2_with fail
    clear cc0 ccK ccA ccB ccC
    refine (FB2.out _).mono ?_
    rintro e w' ⟨rfl, hb⟩
    have R9 := Lib.hid (OneB.later hb R8.out)
    have K9 := Lib.hid (K8.out.later hb)
    have A9 := Lib.hid (A8.out.later hb)
    have B9 := Lib.hid (B8.out.later hb)
    have C9 := Lib.hid (C8.out.later hb)
    clear hb R8 K8 A8 B8 C8
    have cc0 := bkf2 R9.out.k
    have ccK := bkf2 K9.out
    have ccA := bkf2 A9.out
    have ccB := bkf2 B9.out
    have ccC := bkf2 C9.out
    go_wp2_with fail
    clear cc0 ccK ccA ccB ccC
    refine (FC1.out _).mono ?_
    rintro e w' ⟨rfl, hb⟩
    have R10 := Lib.hid (OneB.later hb R9.out)
    have K10 := Lib.hid (K9.out.later hb)
    have A10 := Lib.hid (A9.out.later hb)
    have B10 := Lib.hid (B9.out.later hb)
    have C10 := Lib.hid (C9.out.later hb)
    clear hb R9 K9 A9 B9 C9
    have cc0 := bkf2 R10.out.k
    have ccK := bkf2 K10.out
    have ccA := bkf2 A10.out
    have ccB := bkf2 B10.out
    have ccC := bkf2 C10.out
    go_wp2_with fail
    clear cc0 ccK ccA ccB ccC
    refine (FC2.out _).mono ?_
    rintro e w' ⟨rfl, hb⟩
    have R11 := Lib.hid (OneB.later hb R10.out)
    have K11 := Lib.hid (K10.out.later hb)
    have A11 := Lib.hid (A10.out.later hb)
    have B11 := Lib.hid (B10.out.later hb)
    have C11 := Lib.hid (C10.out.later hb)
    clear hb R10 K10 A10 B10 C10
    have cc0 := bkf2 R11.out.k
    have ccK := bkf2 K11.out
    have ccA := bkf2 A11.out
    have ccB := bkf2 B11.out
    have ccC := bkf2 C11.out
    go_wp2_with fail
    clear cc0 ccK ccA ccB ccC
    refine (CL.out _).mono ?_
    rintro e w' ⟨rfl, hb⟩
    have R12 := Lib.hid (OneB.later hb R11.out)
    have K12 := Lib.hid (K11.out.later hb)
    have A12 := Lib.hid (A11.out.later hb)
    have B12 := Lib.hid (B11.out.later hb)
    have C12 := Lib.hid (C11.out.later hb)
    clear hb R11 K11 A11 B11 C11
    have cc0 := bkf2 R12.out.k
    have ccK := bkf2 K12.out
    have ccA := bkf2 A12.out
    have ccB := bkf2 B12.out
    have ccC := bkf2 C12.out
    go_wp2_with fail
    clear cc0 ccK ccA ccB ccC
    refine (CW.out _).mono ?_
    rintro e w' ⟨rfl, hb⟩
    have R13 := Lib.hid (OneB.later hb R12.out)
    have K13 := Lib.hid (K12.out.later hb)
    have A13 := Lib.hid (A12.out.later hb)
    have B13 := Lib.hid (B12.out.later hb)
    have C13 := Lib.hid (C12.out.later hb)
    clear hb R12 K12 A12 B12 C12
    have cc0 := bkf2 R13.out.k
    have ccK := bkf2 K13.out
    have ccA := bkf2 A13.out
    have ccB := bkf2 B13.out
    have ccC := bkf2 C13.out
    go_wp2_with fail
    clear cc0 ccK ccA ccB ccC
    refine (CC.out _).mono ?_
    rintro e w' ⟨rfl, hb⟩
    have R14 := Lib.hid (OneB.later hb R13.out)
    have K14 := Lib.hid (K13.out.later hb)
    have A14 := Lib.hid (A13.out.later hb)
    have B14 := Lib.hid (B13.out.later hb)
    have C14 := Lib.hid (C13.out.later hb)
    clear hb R13 K13 A13 B13 C13
    have cc0 := bkf2 R14.out.k
    have ccK := bkf2 K14.out
    have ccA := bkf2 A14.out
    have ccB := bkf2 B14.out
    have ccC := bkf2 C14.out
    go_wp2_with fail
    clear cc0 ccK ccA ccB ccC
    refine (MR.out _).mono ?_
    rintro e w' ⟨rfl, hb⟩
    have R15 := Lib.hid (OneB.later hb R14.out)
    have K15 := Lib.hid (K14.out.later hb)
    have A15 := Lib.hid (A14.out.later hb)
    have B15 := Lib.hid (B14.out.later hb)
    have C15 := Lib.hid (C14.out.later hb)
    clear hb R14 K14 A14 B14 C14
    have cc0 := bkf2 R15.out.k
    have ccK := bkf2 K15.out
    have ccA := bkf2 A15.out
    have ccB := bkf2 B15.out
    have ccC := bkf2 C15.out
    go_wp2_with fail
    clear cc0 ccK ccA ccB ccC
    refine (WI.out _).mono ?_
    rintro e w' ⟨rfl, rfl⟩
    have cc0 := bkf2 R15.out.k
    have ccK := bkf2 K15.out
    have ccA := bkf2 A15.out
    have ccB := bkf2 B15.out
    have ccC := bkf2 C15.out
    go_wp2_with fail
    clear cc0 ccK ccA ccB ccC
    refine (TU.out _).mono ?_
    rintro e wt16 ⟨rfl, hb⟩
    have R16 := Lib.hid (OneB.alloc (OneB.later hb R15.out) (.cells #[.int .i64 uN, .int .i64 uD] 23))
    have K16 := Lib.hid ((K15.out.later hb).alloc (.cells #[.int .i64 uN, .int .i64 uD] 23))
    have A16 := Lib.hid ((A15.out.later hb).alloc (.cells #[.int .i64 uN, .int .i64 uD] 23))
    have B16 := Lib.hid ((B15.out.later hb).alloc (.cells #[.int .i64 uN, .int .i64 uD] 23))
    have C16 := Lib.hid ((C15.out.later hb).alloc (.cells #[.int .i64 uN, .int .i64 uD] 23))
    have U16 := Lib.hid (Bk.new wt16 23 #[.int .i64 uN, .int .i64 uD])
    clear hb R15 K15 A15 B15 C15
    have cc0 := bkf2 R16.out.k
    have ccK := bkf2 K16.out
    have ccA := bkf2 A16.out
    have ccB := bkf2 B16.out
    have ccC := bkf2 C16.out
    have ccU := bkf2 U16.out
    go_wp2_with fail
    clear cc0 ccK ccA ccB ccC ccU
    obtain ⟨gU, hgU⟩ : ∃ g, wt16.heap.size = g := ⟨_, rfl⟩
    obtain ⟨wa16, hwa16⟩ : ∃ W, wt16.alloc (.cells #[.int .i64 uN, .int .i64 uD] 23) = W := ⟨_, rfl⟩
    rw [hwa16] at R16 K16 A16 B16 C16 U16 ⊢
    rw [hgU] at U16 ⊢
    clear hwa16 hgU
    refine (FU1.out _).mono ?_
    rintro e w' ⟨rfl, hb⟩
    have R17 := Lib.hid (OneB.later hb R16.out)
    have K17 := Lib.hid (K16.out.later hb)
    have A17 := Lib.hid (A16.out.later hb)
    have B17 := Lib.hid (B16.out.later hb)
    have C17 := Lib.hid (C16.out.later hb)
    have U17 := Lib.hid (U16.out.later hb)
    clear hb R16 K16 A16 B16 C16 U16
    have cc0 := bkf2 R17.out.k
    have ccK := bkf2 K17.out
    have ccA := bkf2 A17.out
    have ccB := bkf2 B17.out
    have ccC := bkf2 C17.out
    have ccU := bkf2 U17.out
    go_wp2_with fail
    clear cc0 ccK ccA ccB ccC ccU
    refine (FU2.out _).mono ?_
    rintro e w' ⟨rfl, hb⟩
    have R18 := Lib.hid (OneB.later hb R17.out)
    have K18 := Lib.hid (K17.out.later hb)
    have A18 := Lib.hid (A17.out.later hb)
    have B18 := Lib.hid (B17.out.later hb)
    have C18 := Lib.hid (C17.out.later hb)
    have U18 := Lib.hid (U17.out.later hb)
    clear hb R17 K17 A17 B17 C17 U17
    have cc0 := bkf2 R18.out.k
    have ccK := bkf2 K18.out
    have ccA := bkf2 A18.out
    have ccB := bkf2 B18.out
    have ccC := bkf2 C18.out
    have ccU := bkf2 U18.out
    go_wp2_with fail
    clear cc0 ccK ccA ccB ccC ccU
    refine (CU.out _).mono ?_
    rintro e w' ⟨rfl, hb⟩
    have R19 := Lib.hid (OneB.later hb R18.out)
    have K19 := Lib.hid (K18.out.later hb)
    have A19 := Lib.hid (A18.out.later hb)
    have B19 := Lib.hid (B18.out.later hb)
    have C19 := Lib.hid (C18.out.later hb)
    have U19 := Lib.hid (U18.out.later hb)
    clear hb R18 K18 A18 B18 C18 U18
    have cc0 := bkf2 R19.out.k
    have ccK := bkf2 K19.out
    have ccA := bkf2 A19.out
    have ccB := bkf2 B19.out
    have ccC := bkf2 C19.out
    have ccU := bkf2 U19.out
    go_wp2
    go_ret
    exact ⟨rfl, R19.out.b⟩

end Go.Proofs.Ytlpkjkjgmenhkaa

namespace Go.Proofs.Ytlpkjkjgmenhkaa
open Go.RowKit

open Go.Shelf
attribute [local go_sem] undef

set_option maxRecDepth 100000 in
set_option maxHeartbeats 8000000 in
theorem chances_pv (t r : Nat) (n d : Int) (w : World) (aN aD : Int) (s q : Nat) (bN bD cN cD X1 X2 X3 Y cv : Int) (uN uD cu : Int) (V V1 : Nat) (xN xD cx : Int)
    (hr : 0 < r)
    (C3 : Hid (∀ w, Calls Try.prog 18 #[.int .i64 t, .int .i64 r] w fun e w' => e = .returned (.int .i64 0) ∧ w = w'))
    (D2 : Hid (∀ w, Calls Try.prog 21 #[.agg #[.int .i64 n, .int .i64 d]] w fun e w' => e = .returned (.int .i64 0) ∧ Below w.heap.size w w'))
    (T0 : Hid (∀ w, Calls Try.prog 16 #[.int .i64 t, .int .i64 0] w fun e w' => e = .returned (.tuple #[.agg #[.int .i64 1, .int .i64 1], .int .i64 0]) ∧ Below w.heap.size w w'))
    (TA : Hid (∀ w, Calls Try.prog 16 #[.int .i64 t, .int .i64 r] w fun e w' => e = .returned (.tuple #[.agg #[.int .i64 aN, .int .i64 aD], .int .i64 0]) ∧ Below w.heap.size w w'))
    (FA : Hid (FracOk aN aD))
    (MR : Hid (∀ w, Calls Try.prog 17 #[.int .i64 t, .agg #[.int .i64 n, .int .i64 d]] w fun e w' => e = .returned (.tuple #[.int .i64 V, .int .i64 0]) ∧ Below w.heap.size w w'))
    (TB : Hid (∀ w, Calls Try.prog 16 #[.int .i64 t, .int .i64 s] w fun e w' => e = .returned (.tuple #[.agg #[.int .i64 bN, .int .i64 bD], .int .i64 0]) ∧ Below w.heap.size w w'))
    (TC : Hid (∀ w, Calls Try.prog 16 #[.int .i64 t, .int .i64 q] w fun e w' => e = .returned (.tuple #[.agg #[.int .i64 cN, .int .i64 cD], .int .i64 0]) ∧ Below w.heap.size w w'))
    (FB : Hid (FracOk bN bD))
    (FC : Hid (FracOk cN cD))
    (hw1 : IntKind.i64.wrap ((t : Int) + 1) = (t : Int) + 1) (hw2 : IntKind.i64.wrap ((t : Int) + 1 - (r : Int)) = (s : Int)) (hw3 : IntKind.i64.wrap ((r : Int) - 1) = (q : Int))
    (hm1 : IntKind.i64.wrap (aN * bD) = X1) (hm2 : IntKind.i64.wrap (bN * aD) = X2) (hm3 : IntKind.i64.wrap (X1 + X2) = X3) (hm4 : IntKind.i64.wrap (aD * bD) = Y) (hcv : ¬ cv < 0)
    (CL : Hid (∀ w, Calls Try.prog 26 #[.int .i64 X3, .int .i64 Y] w fun e w' => e = .returned (.agg #[.int .i64 1, .int .i64 1]) ∧ Below w.heap.size w w'))
    (CC : Hid (∀ w, Calls Try.prog 27 #[.agg #[.int .i64 cN, .int .i64 cD], .agg #[.int .i64 aN, .int .i64 aD]] w fun e w' => e = .returned (.int .i64 cv) ∧ Below w.heap.size w w'))
    (WI : Hid (∀ w, Calls Try.prog 28 #[.int .i64 V, .int .i64 0, .int .i64 t] w fun e w' => e = .returned (.bool true) ∧ w = w'))
    (TU : Hid (∀ w, Calls Try.prog 16 #[.int .i64 t, .int .i64 V] w fun e w' => e = .returned (.tuple #[.agg #[.int .i64 uN, .int .i64 uD], .int .i64 0]) ∧ Below w.heap.size w w'))
    (FU : Hid (FracOk uN uD))
    (CU : Hid (∀ w, Calls Try.prog 27 #[.agg #[.int .i64 uN, .int .i64 uD], .agg #[.int .i64 n, .int .i64 d]] w fun e w' => e = .returned (.int .i64 cu) ∧ Below w.heap.size w w'))
    (hcu : ¬ 0 < cu)
    (hV : 0 < V) (hw4 : IntKind.i64.wrap ((V : Int) - 1) = (V1 : Int))
    (TX : Hid (∀ w, Calls Try.prog 16 #[.int .i64 t, .int .i64 V1] w fun e w' => e = .returned (.tuple #[.agg #[.int .i64 xN, .int .i64 xD], .int .i64 0]) ∧ Below w.heap.size w w'))
    (FX : Hid (FracOk xN xD))
    (CX : Hid (∀ w, Calls Try.prog 27 #[.agg #[.int .i64 xN, .int .i64 xD], .agg #[.int .i64 n, .int .i64 d]] w fun e w' => e = .returned (.int .i64 cx) ∧ Below w.heap.size w w'))
    (hcx : 0 < cx) :
    Calls Try.prog 4 #[.int .i64 t, .int .i64 r, .agg #[.int .i64 n, .int .i64 d]] w fun e w' => e = .returned (.bool true) ∧ Below w.heap.size w w' := by
  have hrI : (0 : Int) < (r : Int) := by omega
  have hVI : ((V : Int) == 0) = false := by rw [beq_eq_false_iff_ne]; omega
  have hVJ : ¬ (V : Int) = 0 := by omega
  obtain ⟨FA1, FA2⟩ := FA.out
  replace FA1 := Lib.hid FA1
  replace FA2 := Lib.hid FA2
  obtain ⟨FB1, FB2⟩ := FB.out
  replace FB1 := Lib.hid FB1
  replace FB2 := Lib.hid FB2
  obtain ⟨FC1, FC2⟩ := FC.out
  replace FC1 := Lib.hid FC1
  replace FC2 := Lib.hid FC2
  obtain ⟨FU1, FU2⟩ := FU.out
  replace FU1 := Lib.hid FU1
  replace FU2 := Lib.hid FU2
  obtain ⟨FX1, FX2⟩ := FX.out
  replace FX1 := Lib.hid FX1
  replace FX2 := Lib.hid FX2
  have CW := Lib.hid (fun w => bWhole_any 1 w)
  have R0 := Lib.hid (OneB.start w 23 #[.int .i64 n, .int .i64 d])
  go_enter Try.func4, Try.ntmps4
  have cc0 := bkf2 R0.out.k
  go_wp2_with fail
  clear cc0 
  refine (awake_any _).mono ?_
  rintro e w' ⟨rfl, hb⟩
  have R1 := Lib.hid (OneB.later hb R0.out)
  clear hb R0 
  have cc0 := bkf2 R1.out.k
  go_wp2_with fail
  clear cc0 
  refine (C3.out _).mono ?_
  rintro e w' ⟨rfl, rfl⟩
  have cc0 := bkf2 R1.out.k
  go_wp2_with fail
  clear cc0 
  refine (D2.out _).mono ?_
  rintro e w' ⟨rfl, hb⟩
  have R2 := Lib.hid (OneB.later hb R1.out)
  clear hb R1 
  have cc0 := bkf2 R2.out.k
  go_wp2_with fail
  clear cc0 
  refine (T0.out _).mono ?_
  rintro e wt3 ⟨rfl, hb⟩
  have R3 := Lib.hid (OneB.alloc (OneB.later hb R2.out) (.cells #[.int .i64 1, .int .i64 1] 23))
  have K3 := Lib.hid (Bk.new wt3 23 #[.int .i64 1, .int .i64 1])
  clear hb R2 
  have cc0 := bkf2 R3.out.k
  have ccK := bkf2 K3.out
  go_wp2_with fail
  clear cc0 ccK
  obtain ⟨gK, hgK⟩ : ∃ g, wt3.heap.size = g := ⟨_, rfl⟩
  obtain ⟨wa3, hwa3⟩ : ∃ W, wt3.alloc (.cells #[.int .i64 1, .int .i64 1] 23) = W := ⟨_, rfl⟩
  rw [hwa3] at R3 K3 ⊢
  rw [hgK] at K3 ⊢
  clear hwa3 hgK
  refine (TA.out _).mono ?_
  rintro e wt4 ⟨rfl, hb⟩
  have R4 := Lib.hid (OneB.alloc (OneB.later hb R3.out) (.cells #[.int .i64 aN, .int .i64 aD] 23))
  have K4 := Lib.hid ((K3.out.later hb).alloc (.cells #[.int .i64 aN, .int .i64 aD] 23))
  have A4 := Lib.hid (Bk.new wt4 23 #[.int .i64 aN, .int .i64 aD])
  clear hb R3 K3
  have cc0 := bkf2 R4.out.k
  have ccK := bkf2 K4.out
  have ccA := bkf2 A4.out
  go_wp2
  clear cc0 ccK ccA
  obtain ⟨gA, hgA⟩ : ∃ g, wt4.heap.size = g := ⟨_, rfl⟩
  obtain ⟨wa4, hwa4⟩ : ∃ W, wt4.alloc (.cells #[.int .i64 aN, .int .i64 aD] 23) = W := ⟨_, rfl⟩
  rw [hwa4] at R4 K4 A4 ⊢
  rw [hgA] at A4 ⊢
  clear hwa4 hgA
  have hBB : Below wa4.heap.size wa4 wa4 := Below.refl _ _
  have HC : Hid (∀ W, Below wa4.heap.size wa4 W → (W.cell? ⟨gK, 0, none⟩ = some (.int .i64 1) ∧ W.cell? ⟨gK, 1, none⟩ = some (.int .i64 1)) ∧ (W.cell? ⟨gA, 0, none⟩ = some (.int .i64 aN) ∧ W.cell? ⟨gA, 1, none⟩ = some (.int .i64 aD))) := fun W hb => ⟨bkf2 (K4.out.later hb), bkf2 (A4.out.later hb)⟩
  first | (go_region_held3 (fun w' : World => ((w'.cell? ⟨gK, 0, none⟩ = some (.int .i64 1) ∧ w'.cell? ⟨gK, 1, none⟩ = some (.int .i64 1)) ∧ (w'.cell? ⟨gA, 0, none⟩ = some (.int .i64 aN) ∧ w'.cell? ⟨gA, 1, none⟩ = some (.int .i64 aD))) ∧ Below wa4.heap.size wa4 w') ((refine (fun hI => ⟨HC.out _ hI, hI⟩) ?_; repeat (first | with_reducible assumption | (go_split_ands; with_reducible assumption) | with_reducible refine belowA ?_ _ | with_reducible refine Below.drew ?_))) (first | (go_at_call 23; ((with_reducible refine (CW.out _).mono ?_)); rintro e wx ⟨rfl, hbwx⟩; have hbwx' : Below wa4.heap.size wa4 wx := Below.trans (by first | assumption | (go_split_ands; assumption)) (hbwx.mono (Below.size (by first | assumption | (go_split_ands; assumption)))); clear hbwx) | (go_at_call 24; ((with_reducible refine (FA1.out _).mono ?_)); rintro e wy ⟨rfl, hbwy⟩; have hbwy' : Below wa4.heap.size wa4 wy := Below.trans (by first | assumption | (go_split_ands; assumption)) (hbwy.mono (Below.size (by first | assumption | (go_split_ands; assumption)))); clear hbwy) | (go_at_call 25; ((with_reducible refine (FA2.out _).mono ?_)); rintro e wz ⟨rfl, hbwz⟩; have hbwz' : Below wa4.heap.size wa4 wz := Below.trans (by first | assumption | (go_split_ands; assumption)) (hbwz.mono (Below.size (by first | assumption | (go_split_ands; assumption)))); clear hbwz))) | fail
  all_goals
    have R5 := Lib.hid (OneB.later hbwz' R4.out)
    have K5 := Lib.hid (K4.out.later hbwz')
    have A5 := Lib.hid (A4.out.later hbwz')
    clear hbwz' hbwy' hbwx' hBB HC R4 K4 A4
    have cc0 := bkf2 R5.out.k
    have ccK := bkf2 K5.out
    have ccA := bkf2 A5.out
    go_wp2_with fail
    clear cc0 ccK ccA
    refine (TB.out _).mono ?_
    rintro e wt6 ⟨rfl, hb⟩
    have R6 := Lib.hid (OneB.alloc (OneB.later hb R5.out) (.cells #[.int .i64 bN, .int .i64 bD] 23))
    have K6 := Lib.hid ((K5.out.later hb).alloc (.cells #[.int .i64 bN, .int .i64 bD] 23))
    have A6 := Lib.hid ((A5.out.later hb).alloc (.cells #[.int .i64 bN, .int .i64 bD] 23))
    have B6 := Lib.hid (Bk.new wt6 23 #[.int .i64 bN, .int .i64 bD])
    clear hb R5 K5 A5
    have cc0 := bkf2 R6.out.k
    have ccK := bkf2 K6.out
    have ccA := bkf2 A6.out
    have ccB := bkf2 B6.out
    go_wp2_with fail
    clear cc0 ccK ccA ccB
    obtain ⟨gB, hgB⟩ : ∃ g, wt6.heap.size = g := ⟨_, rfl⟩
    obtain ⟨wa6, hwa6⟩ : ∃ W, wt6.alloc (.cells #[.int .i64 bN, .int .i64 bD] 23) = W := ⟨_, rfl⟩
    rw [hwa6] at R6 K6 A6 B6 ⊢
    rw [hgB] at B6 ⊢
    clear hwa6 hgB
    refine (TC.out _).mono ?_
    rintro e wt7 ⟨rfl, hb⟩
    have R7 := Lib.hid (OneB.alloc (OneB.later hb R6.out) (.cells #[.int .i64 cN, .int .i64 cD] 23))
    have K7 := Lib.hid ((K6.out.later hb).alloc (.cells #[.int .i64 cN, .int .i64 cD] 23))
    have A7 := Lib.hid ((A6.out.later hb).alloc (.cells #[.int .i64 cN, .int .i64 cD] 23))
    have B7 := Lib.hid ((B6.out.later hb).alloc (.cells #[.int .i64 cN, .int .i64 cD] 23))
    have C7 := Lib.hid (Bk.new wt7 23 #[.int .i64 cN, .int .i64 cD])
    clear hb R6 K6 A6 B6
    have cc0 := bkf2 R7.out.k
    have ccK := bkf2 K7.out
    have ccA := bkf2 A7.out
    have ccB := bkf2 B7.out
    have ccC := bkf2 C7.out
    go_wp2_with fail
    clear cc0 ccK ccA ccB ccC
    obtain ⟨gC, hgC⟩ : ∃ g, wt7.heap.size = g := ⟨_, rfl⟩
    obtain ⟨wa7, hwa7⟩ : ∃ W, wt7.alloc (.cells #[.int .i64 cN, .int .i64 cD] 23) = W := ⟨_, rfl⟩
    rw [hwa7] at R7 K7 A7 B7 C7 ⊢
    rw [hgC] at C7 ⊢
    clear hwa7 hgC
    refine (FB1.out _).mono ?_
    rintro e w' ⟨rfl, hb⟩
    have R8 := Lib.hid (OneB.later hb R7.out)
    have K8 := Lib.hid (K7.out.later hb)
    have A8 := Lib.hid (A7.out.later hb)
    have B8 := Lib.hid (B7.out.later hb)
    have C8 := Lib.hid (C7.out.later hb)
    clear hb R7 K7 A7 B7 C7
    have cc0 := bkf2 R8.out.k
    have ccK := bkf2 K8.out
    have ccA := bkf2 A8.out
    have ccB := bkf2 B8.out
    have ccC := bkf2 C8.out
    go_wp2_with fail
    clear cc0 ccK ccA ccB ccC
    refine (FB2.out _).mono ?_
    rintro e w' ⟨rfl, hb⟩
    have R9 := Lib.hid (OneB.later hb R8.out)
    have K9 := Lib.hid (K8.out.later hb)
    have A9 := Lib.hid (A8.out.later hb)
    have B9 := Lib.hid (B8.out.later hb)
    have C9 := Lib.hid (C8.out.later hb)
    clear hb R8 K8 A8 B8 C8
    have cc0 := bkf2 R9.out.k
    have ccK := bkf2 K9.out
    have ccA := bkf2 A9.out
    have ccB := bkf2 B9.out
    have ccC := bkf2 C9.out
    go_wp2_with fail
    clear cc0 ccK ccA ccB ccC
    refine (FC1.out _).mono ?_
    rintro e w' ⟨rfl, hb⟩
    have R10 := Lib.hid (OneB.later hb R9.out)
    have K10 := Lib.hid (K9.out.later hb)
    have A10 := Lib.hid (A9.out.later hb)
    have B10 := Lib.hid (B9.out.later hb)
    have C10 := Lib.hid (C9.out.later hb)
    clear hb R9 K9 A9 B9 C9
    have cc0 := bkf2 R10.out.k
    have ccK := bkf2 K10.out
    have ccA := bkf2 A10.out
    have ccB := bkf2 B10.out
    have ccC := bkf2 C10.out
    go_wp2_with fail
    clear cc0 ccK ccA ccB ccC
    refine (FC2.out _).mono ?_
    rintro e w' ⟨rfl, hb⟩
    have R11 := Lib.hid (OneB.later hb R10.out)
    have K11 := Lib.hid (K10.out.later hb)
    have A11 := Lib.hid (A10.out.later hb)
    have B11 := Lib.hid (B10.out.later hb)
    have C11 := Lib.hid (C10.out.later hb)
    clear hb R10 K10 A10 B10 C10
    have cc0 := bkf2 R11.out.k
    have ccK := bkf2 K11.out
    have ccA := bkf2 A11.out
    have ccB := bkf2 B11.out
    have ccC := bkf2 C11.out
    go_wp2_with fail
    clear cc0 ccK ccA ccB ccC
    refine (CL.out _).mono ?_
    rintro e w' ⟨rfl, hb⟩
    have R12 := Lib.hid (OneB.later hb R11.out)
    have K12 := Lib.hid (K11.out.later hb)
    have A12 := Lib.hid (A11.out.later hb)
    have B12 := Lib.hid (B11.out.later hb)
    have C12 := Lib.hid (C11.out.later hb)
    clear hb R11 K11 A11 B11 C11
    have cc0 := bkf2 R12.out.k
    have ccK := bkf2 K12.out
    have ccA := bkf2 A12.out
    have ccB := bkf2 B12.out
    have ccC := bkf2 C12.out
    go_wp2_with fail
    clear cc0 ccK ccA ccB ccC
    refine (CW.out _).mono ?_
    rintro e w' ⟨rfl, hb⟩
    have R13 := Lib.hid (OneB.later hb R12.out)
    have K13 := Lib.hid (K12.out.later hb)
    have A13 := Lib.hid (A12.out.later hb)
    have B13 := Lib.hid (B12.out.later hb)
    have C13 := Lib.hid (C12.out.later hb)
    clear hb R12 K12 A12 B12 C12
    have cc0 := bkf2 R13.out.k
    have ccK := bkf2 K13.out
    have ccA := bkf2 A13.out
    have ccB := bkf2 B13.out
    have ccC := bkf2 C13.out
    go_wp2_with fail
    clear cc0 ccK ccA ccB ccC
    refine (CC.out _).mono ?_
    rintro e w' ⟨rfl, hb⟩
    have R14 := Lib.hid (OneB.later hb R13.out)
    have K14 := Lib.hid (K13.out.later hb)
    have A14 := Lib.hid (A13.out.later hb)
    have B14 := Lib.hid (B13.out.later hb)
    have C14 := Lib.hid (C13.out.later hb)
    clear hb R13 K13 A13 B13 C13
    have cc0 := bkf2 R14.out.k
    have ccK := bkf2 K14.out
    have ccA := bkf2 A14.out
    have ccB := bkf2 B14.out
    have ccC := bkf2 C14.out
    go_wp2_with fail
    clear cc0 ccK ccA ccB ccC
    refine (MR.out _).mono ?_
    rintro e w' ⟨rfl, hb⟩
    have R15 := Lib.hid (OneB.later hb R14.out)
    have K15 := Lib.hid (K14.out.later hb)
    have A15 := Lib.hid (A14.out.later hb)
    have B15 := Lib.hid (B14.out.later hb)
    have C15 := Lib.hid (C14.out.later hb)
    clear hb R14 K14 A14 B14 C14
    have cc0 := bkf2 R15.out.k
    have ccK := bkf2 K15.out
    have ccA := bkf2 A15.out
    have ccB := bkf2 B15.out
    have ccC := bkf2 C15.out
    go_wp2_with fail
    clear cc0 ccK ccA ccB ccC
    refine (WI.out _).mono ?_
    rintro e w' ⟨rfl, rfl⟩
    have cc0 := bkf2 R15.out.k
    have ccK := bkf2 K15.out
    have ccA := bkf2 A15.out
    have ccB := bkf2 B15.out
    have ccC := bkf2 C15.out
    go_wp2_with fail
    clear cc0 ccK ccA ccB ccC
    refine (TU.out _).mono ?_
    rintro e wt16 ⟨rfl, hb⟩
    have R16 := Lib.hid (OneB.alloc (OneB.later hb R15.out) (.cells #[.int .i64 uN, .int .i64 uD] 23))
    have K16 := Lib.hid ((K15.out.later hb).alloc (.cells #[.int .i64 uN, .int .i64 uD] 23))
    have A16 := Lib.hid ((A15.out.later hb).alloc (.cells #[.int .i64 uN, .int .i64 uD] 23))
    have B16 := Lib.hid ((B15.out.later hb).alloc (.cells #[.int .i64 uN, .int .i64 uD] 23))
    have C16 := Lib.hid ((C15.out.later hb).alloc (.cells #[.int .i64 uN, .int .i64 uD] 23))
    have U16 := Lib.hid (Bk.new wt16 23 #[.int .i64 uN, .int .i64 uD])
    clear hb R15 K15 A15 B15 C15
    have cc0 := bkf2 R16.out.k
    have ccK := bkf2 K16.out
    have ccA := bkf2 A16.out
    have ccB := bkf2 B16.out
    have ccC := bkf2 C16.out
    have ccU := bkf2 U16.out
    go_wp2_with fail
    clear cc0 ccK ccA ccB ccC ccU
    obtain ⟨gU, hgU⟩ : ∃ g, wt16.heap.size = g := ⟨_, rfl⟩
    obtain ⟨wa16, hwa16⟩ : ∃ W, wt16.alloc (.cells #[.int .i64 uN, .int .i64 uD] 23) = W := ⟨_, rfl⟩
    rw [hwa16] at R16 K16 A16 B16 C16 U16 ⊢
    rw [hgU] at U16 ⊢
    clear hwa16 hgU
    refine (FU1.out _).mono ?_
    rintro e w' ⟨rfl, hb⟩
    have R17 := Lib.hid (OneB.later hb R16.out)
    have K17 := Lib.hid (K16.out.later hb)
    have A17 := Lib.hid (A16.out.later hb)
    have B17 := Lib.hid (B16.out.later hb)
    have C17 := Lib.hid (C16.out.later hb)
    have U17 := Lib.hid (U16.out.later hb)
    clear hb R16 K16 A16 B16 C16 U16
    have cc0 := bkf2 R17.out.k
    have ccK := bkf2 K17.out
    have ccA := bkf2 A17.out
    have ccB := bkf2 B17.out
    have ccC := bkf2 C17.out
    have ccU := bkf2 U17.out
    go_wp2_with fail
    clear cc0 ccK ccA ccB ccC ccU
    refine (FU2.out _).mono ?_
    rintro e w' ⟨rfl, hb⟩
    have R18 := Lib.hid (OneB.later hb R17.out)
    have K18 := Lib.hid (K17.out.later hb)
    have A18 := Lib.hid (A17.out.later hb)
    have B18 := Lib.hid (B17.out.later hb)
    have C18 := Lib.hid (C17.out.later hb)
    have U18 := Lib.hid (U17.out.later hb)
    clear hb R17 K17 A17 B17 C17 U17
    have cc0 := bkf2 R18.out.k
    have ccK := bkf2 K18.out
    have ccA := bkf2 A18.out
    have ccB := bkf2 B18.out
    have ccC := bkf2 C18.out
    have ccU := bkf2 U18.out
    go_wp2_with fail
    clear cc0 ccK ccA ccB ccC ccU
    refine (CU.out _).mono ?_
    rintro e w' ⟨rfl, hb⟩
    have R19 := Lib.hid (OneB.later hb R18.out)
    have K19 := Lib.hid (K18.out.later hb)
    have A19 := Lib.hid (A18.out.later hb)
    have B19 := Lib.hid (B18.out.later hb)
    have C19 := Lib.hid (C18.out.later hb)
    have U19 := Lib.hid (U18.out.later hb)
    clear hb R18 K18 A18 B18 C18 U18
    have cc0 := bkf2 R19.out.k
    have ccK := bkf2 K19.out
    have ccA := bkf2 A19.out
    have ccB := bkf2 B19.out
    have ccC := bkf2 C19.out
    have ccU := bkf2 U19.out
    go_wp2_with fail
    clear cc0 ccK ccA ccB ccC ccU
    refine (TX.out _).mono ?_
    rintro e wt20 ⟨rfl, hb⟩
    have R20 := Lib.hid (OneB.alloc (OneB.later hb R19.out) (.cells #[.int .i64 xN, .int .i64 xD] 23))
    have K20 := Lib.hid ((K19.out.later hb).alloc (.cells #[.int .i64 xN, .int .i64 xD] 23))
    have A20 := Lib.hid ((A19.out.later hb).alloc (.cells #[.int .i64 xN, .int .i64 xD] 23))
    have B20 := Lib.hid ((B19.out.later hb).alloc (.cells #[.int .i64 xN, .int .i64 xD] 23))
    have C20 := Lib.hid ((C19.out.later hb).alloc (.cells #[.int .i64 xN, .int .i64 xD] 23))
    have U20 := Lib.hid ((U19.out.later hb).alloc (.cells #[.int .i64 xN, .int .i64 xD] 23))
    have X20 := Lib.hid (Bk.new wt20 23 #[.int .i64 xN, .int .i64 xD])
    clear hb R19 K19 A19 B19 C19 U19
    have cc0 := bkf2 R20.out.k
    have ccK := bkf2 K20.out
    have ccA := bkf2 A20.out
    have ccB := bkf2 B20.out
    have ccC := bkf2 C20.out
    have ccU := bkf2 U20.out
    have ccX := bkf2 X20.out
    go_wp2_with fail
    clear cc0 ccK ccA ccB ccC ccU ccX
    obtain ⟨gX, hgX⟩ : ∃ g, wt20.heap.size = g := ⟨_, rfl⟩
    obtain ⟨wa20, hwa20⟩ : ∃ W, wt20.alloc (.cells #[.int .i64 xN, .int .i64 xD] 23) = W := ⟨_, rfl⟩
    rw [hwa20] at R20 K20 A20 B20 C20 U20 X20 ⊢
    rw [hgX] at X20 ⊢
    clear hwa20 hgX
    refine (FX1.out _).mono ?_
    rintro e w' ⟨rfl, hb⟩
    have R21 := Lib.hid (OneB.later hb R20.out)
    have K21 := Lib.hid (K20.out.later hb)
    have A21 := Lib.hid (A20.out.later hb)
    have B21 := Lib.hid (B20.out.later hb)
    have C21 := Lib.hid (C20.out.later hb)
    have U21 := Lib.hid (U20.out.later hb)
    have X21 := Lib.hid (X20.out.later hb)
    clear hb R20 K20 A20 B20 C20 U20 X20
    have cc0 := bkf2 R21.out.k
    have ccK := bkf2 K21.out
    have ccA := bkf2 A21.out
    have ccB := bkf2 B21.out
    have ccC := bkf2 C21.out
    have ccU := bkf2 U21.out
    have ccX := bkf2 X21.out
    go_wp2_with fail
    clear cc0 ccK ccA ccB ccC ccU ccX
    refine (FX2.out _).mono ?_
    rintro e w' ⟨rfl, hb⟩
    have R22 := Lib.hid (OneB.later hb R21.out)
    have K22 := Lib.hid (K21.out.later hb)
    have A22 := Lib.hid (A21.out.later hb)
    have B22 := Lib.hid (B21.out.later hb)
    have C22 := Lib.hid (C21.out.later hb)
    have U22 := Lib.hid (U21.out.later hb)
    have X22 := Lib.hid (X21.out.later hb)
    clear hb R21 K21 A21 B21 C21 U21 X21
    have cc0 := bkf2 R22.out.k
    have ccK := bkf2 K22.out
    have ccA := bkf2 A22.out
    have ccB := bkf2 B22.out
    have ccC := bkf2 C22.out
    have ccU := bkf2 U22.out
    have ccX := bkf2 X22.out
    go_wp2_with fail
    clear cc0 ccK ccA ccB ccC ccU ccX
    refine (CX.out _).mono ?_
    rintro e w' ⟨rfl, hb⟩
    have R23 := Lib.hid (OneB.later hb R22.out)
    have K23 := Lib.hid (K22.out.later hb)
    have A23 := Lib.hid (A22.out.later hb)
    have B23 := Lib.hid (B22.out.later hb)
    have C23 := Lib.hid (C22.out.later hb)
    have U23 := Lib.hid (U22.out.later hb)
    have X23 := Lib.hid (X22.out.later hb)
    clear hb R22 K22 A22 B22 C22 U22 X22
    have cc0 := bkf2 R23.out.k
    have ccK := bkf2 K23.out
    have ccA := bkf2 A23.out
    have ccB := bkf2 B23.out
    have ccC := bkf2 C23.out
    have ccU := bkf2 U23.out
    have ccX := bkf2 X23.out
    go_wp2
    go_ret
    exact ⟨rfl, R23.out.b⟩

end Go.Proofs.Ytlpkjkjgmenhkaa

namespace Go.Proofs.Ytlpkjkjgmenhkaa
open Go.RowKit

open Go.Shelf

set_option maxRecDepth 100000 in
theorem chances_i1 (t r n d : Int) (w : World)
    (C3 : Hid (∀ w, Calls Try.prog 18 #[.int .i64 t, .int .i64 r] w fun e w' => e = .returned (.int .i64 2) ∧ w = w')) :
    Calls Try.prog 4 #[.int .i64 t, .int .i64 r, .agg #[.int .i64 n, .int .i64 d]] w fun e w' => e = .returned (.bool true) ∧ Below w.heap.size w w' := by
  have R0 := Lib.hid (OneB.start w 23 #[.int .i64 n, .int .i64 d])
  go_enter Try.func4, Try.ntmps4
  go_wp2_with fail
  refine (awake_any _).mono ?_
  rintro e w1 ⟨rfl, hb1⟩
  have R1 := Lib.hid (OneB.later hb1 R0.out)
  clear hb1 R0
  go_wp2_with fail
  refine (C3.out _).mono ?_
  rintro e w' ⟨rfl, rfl⟩
  go_wp2
  go_ret
  exact ⟨rfl, R1.out.b⟩
set_option maxRecDepth 100000 in
theorem chances_i2 (t r n d L : Int) (hL : L ≠ 0) (w : World)
    (C3 : Hid (∀ w, Calls Try.prog 18 #[.int .i64 t, .int .i64 r] w fun e w' => e = .returned (.int .i64 0) ∧ w = w'))
    (D2 : Hid (∀ w, Calls Try.prog 21 #[.agg #[.int .i64 n, .int .i64 d]] w fun e w' => e = .returned (.int .i64 L) ∧ Below w.heap.size w w')) :
    Calls Try.prog 4 #[.int .i64 t, .int .i64 r, .agg #[.int .i64 n, .int .i64 d]] w fun e w' => e = .returned (.bool true) ∧ Below w.heap.size w w' := by
  have R0 := Lib.hid (OneB.start w 23 #[.int .i64 n, .int .i64 d])
  have hL1 : (L == 0) = false := by rw [beq_eq_false_iff_ne]; exact hL
  have hL2 : (L != 0) = true := by rw [bne_iff_ne]; exact hL
  go_enter Try.func4, Try.ntmps4
  go_wp2_with fail
  refine (awake_any _).mono ?_
  rintro e w1 ⟨rfl, hb1⟩
  have R1 := Lib.hid (OneB.later hb1 R0.out)
  clear hb1 R0
  have c1 := bkf2 R1.out.k
  go_wp2_with fail
  refine (C3.out _).mono ?_
  rintro e w' ⟨rfl, rfl⟩
  go_wp2_with fail
  refine (D2.out _).mono ?_
  rintro e w2 ⟨rfl, hb2⟩
  have R2 := Lib.hid (OneB.later hb2 R1.out)
  clear hb2 R1 c1
  go_wp2
  go_ret
  exact ⟨rfl, R2.out.b⟩
theorem mulN {a b : Int} (ha : 0 ≤ a ∧ a ≤ 536870912) (hb : 0 ≤ b ∧ b ≤ 536870912) : 0 ≤ a * b ∧ a * b ≤ 288230376151711744 := by
  have h1 := Int.mul_nonneg ha.1 hb.1
  have h2 : a * b ≤ 536870912 * 536870912 := Int.mul_le_mul ha.2 hb.2 hb.1 (by omega)
  omega

theorem chances_any (t r n d : Int) (w : World) (hn : -9223372036854775808 ≤ n ∧ n ≤ 9223372036854775807) (hd : -9223372036854775808 ≤ d ∧ d ≤ 9223372036854775807) :
    Calls Try.prog 4 #[.int .i64 t, .int .i64 r, .agg #[.int .i64 n, .int .i64 d]] w fun e w' => e = .returned (.bool true) ∧ Below w.heap.size w w' := by
  have C3 := fun w => refTailErr_any t r w
  have D2 := fun w => refLevelErr_any n d w hn hd
  rcases tlE_two t r with h | h
  case inr => rw [h] at C3; exact chances_i1 t r n d w C3
  rw [h] at C3
  by_cases hl : lvE n d = 0
  case neg => exact chances_i2 t r n d _ hl w C3 D2
  rw [hl] at D2
  obtain ⟨ht, hr⟩ := tlE_zero h
  obtain ⟨_, hn2, hd1, hd2⟩ := lvE_zero hl
  obtain ⟨tn, rfl⟩ : ∃ k : Nat, t = k := ⟨t.toNat, by omega⟩
  obtain ⟨rn, rfl⟩ : ∃ k : Nat, r = k := ⟨r.toNat, by omega⟩
  have htn : tn < 30 := by omega
  have hrn : rn ≤ tn := by omega
  have T0 := fun w => tail_ok tn 0 htn (by omega) w
  rw [(ok0_all tn htn).1, (ok0_all tn htn).2] at T0
  have TA := fun w => tail_ok tn rn htn hrn w
  have FA := frac_ok htn hrn
  have MR := fun w => MinimumRight_any (tn : Int) n d w hn hd
  have h0 : mrE (tn : Int) n d = 0 := by
    have h1 : rngE 0 29 [(tn : Int)] = 0 := firstNZ_zero h _ (by simp)
    show firstNZ [rngE 0 29 [(tn : Int)], lvE n d] = 0
    rw [h1, hl]; rfl
  have hmr : mrR (tn : Int) n d = (match (List.range (tn + 1)).find? (mrB tn n d) with | some r => ((r : Int), 0) | none => (0, 12)) := by
    unfold mrR
    rw [if_pos h0]
    rfl
  have hcmp : ∀ k, k ≤ tn → mrB tn n d k = decide (cmpF (fNt tn k) (fDt tn k) n d ≤ 0) := fun k hk => mrB_cmp' htn hk n d
  have CM := fun k (hk : k ≤ tn) => cmp_ok htn hk hn2 ⟨hd1, hd2⟩
  have hf : (mrR (tn : Int) n d = (0, 12) ∧ 0 < cmpF (fNt tn tn) (fDt tn tn) n d) ∨ ∃ V, V ≤ tn ∧ mrR (tn : Int) n d = (((V : Nat) : Int), 0) ∧ ¬ 0 < cmpF (fNt tn V) (fDt tn V) n d ∧ (0 < V → 0 < cmpF (fNt tn (V - 1)) (fDt tn (V - 1)) n d) := by
    cases hq : (List.range (tn + 1)).find? (mrB tn n d) with
    | none =>
      left
      refine ⟨by rw [hmr, hq], ?_⟩
      have := List.find?_eq_none.1 hq tn (by simp)
      rw [hcmp tn (Nat.le_refl _)] at this
      simp at this
      omega
    | some V =>
      right
      have h1 := List.find?_some hq
      have h2 := List.mem_of_find?_eq_some hq
      have hV : V ≤ tn := by simp at h2; omega
      rw [hcmp V hV] at h1
      refine ⟨V, hV, by rw [hmr, hq], by simp at h1; omega, fun hV0 => ?_⟩
      have h3 : mrB tn n d (V - 1) = false := by
        obtain ⟨_, i, hi, hiV, hall⟩ := List.find?_eq_some_iff_getElem.1 hq
        have hiV' : i = V := by simpa using hiV
        subst hiV'
        have := hall (i - 1) (by omega)
        simpa using this
      rw [hcmp (V - 1) (by omega)] at h3
      simp at h3
      omega
  have WI : ∀ V : Nat, V ≤ tn → ∀ w, Calls Try.prog 28 #[.int .i64 V, .int .i64 0, .int .i64 tn] w fun e w' => e = .returned (.bool true) ∧ w = w' := by
    intro V hV w
    have := within_any (V : Int) 0 (tn : Int) w
    rwa [show fromB 0 (tn : Int) [(V : Int)] = true by simp [fromB]; omega] at this
  by_cases hr0 : rn = 0
  · subst hr0
    rcases hf with ⟨m, hc⟩ | ⟨V, hV, m, hc, hc2⟩
    · rw [m] at MR
      exact chances_zn tn 0 n d w _ _ _ _ _ rfl C3 D2 T0 TA FA MR (fun w => tail_ok tn tn htn (Nat.le_refl _) w) (frac_ok htn (Nat.le_refl _)) (fun w => CM tn (Nat.le_refl _) w) hc
    · rw [m] at MR
      by_cases hV0 : V = 0
      · subst hV0
        exact chances_z0 tn 0 n d w _ _ _ _ _ rfl C3 D2 T0 TA FA MR (WI 0 hV) (fun w => tail_ok tn 0 htn hV w) (frac_ok htn hV) (fun w => CM 0 hV w) hc
      · exact chances_zv tn 0 n d w _ _ _ _ _ V (V - 1) _ _ _ rfl C3 D2 T0 TA FA MR (WI V hV) (fun w => tail_ok tn V htn hV w) (frac_ok htn hV) (fun w => CM V hV w) hc (by omega) (by rw [IntWalk.i64_in _ (by omega)]; omega) (fun w => tail_ok tn (V - 1) htn (by omega) w) (frac_ok htn (by omega)) (fun w => CM (V - 1) (by omega) w) (hc2 (by omega))
  · obtain ⟨s1, s2, s3⟩ := okS_at htn hrn (by omega)
    obtain ⟨_, _, a1, a2, a3⟩ := okC_at htn hrn
    obtain ⟨_, _, b1, b2, b3⟩ := okC_at (t := tn) (r := tn + 1 - rn) htn (by omega)
    obtain ⟨_, _, c1, c2, c3⟩ := okC_at (t := tn) (r := rn - 1) htn (by omega)
    have p1 := mulN a1 (b := fDt tn (tn + 1 - rn)) (by omega)
    have p2 := mulN b1 (b := fDt tn rn) (by omega)
    have p4 := mulN (a := fDt tn rn) (b := fDt tn (tn + 1 - rn)) (by omega) (by omega)
    have p5 : 0 < fDt tn rn * fDt tn (tn + 1 - rn) := Int.mul_pos (by omega) (by omega)
    have CL := fun w => bLowest_any (fNt tn rn * fDt tn (tn + 1 - rn) + fNt tn (tn + 1 - rn) * fDt tn rn) (fDt tn rn * fDt tn (tn + 1 - rn)) w (by omega) (by omega) p5 (by omega)
    rw [s1, s2] at CL
    have TB := fun w => tail_ok tn (tn + 1 - rn) htn (by omega) w
    have TC := fun w => tail_ok tn (rn - 1) htn (by omega) w
    have FB := frac_ok (t := tn) (r := tn + 1 - rn) htn (by omega)
    have FC := frac_ok (t := tn) (r := rn - 1) htn (by omega)
    have CC := fun w => bCmp_any (fNt tn (rn - 1)) (fDt tn (rn - 1)) (fNt tn rn) (fDt tn rn) w (by omega) (by omega) (by omega) (by omega)
    have hw1 : IntKind.i64.wrap ((tn : Int) + 1) = (tn : Int) + 1 := IntWalk.i64_in _ (by omega)
    have hw2 : IntKind.i64.wrap ((tn : Int) + 1 - (rn : Int)) = ((tn + 1 - rn : Nat) : Int) := by rw [IntWalk.i64_in _ (by omega)]; omega
    have hw3 : IntKind.i64.wrap ((rn : Int) - 1) = ((rn - 1 : Nat) : Int) := by rw [IntWalk.i64_in _ (by omega)]; omega
    have hm1 : IntKind.i64.wrap (fNt tn rn * fDt tn (tn + 1 - rn)) = fNt tn rn * fDt tn (tn + 1 - rn) := IntWalk.i64_in _ (by omega)
    have hm2 : IntKind.i64.wrap (fNt tn (tn + 1 - rn) * fDt tn rn) = fNt tn (tn + 1 - rn) * fDt tn rn := IntWalk.i64_in _ (by omega)
    have hm3 : IntKind.i64.wrap (fNt tn rn * fDt tn (tn + 1 - rn) + fNt tn (tn + 1 - rn) * fDt tn rn) = fNt tn rn * fDt tn (tn + 1 - rn) + fNt tn (tn + 1 - rn) * fDt tn rn := IntWalk.i64_in _ (by omega)
    have hm4 : IntKind.i64.wrap (fDt tn rn * fDt tn (tn + 1 - rn)) = fDt tn rn * fDt tn (tn + 1 - rn) := IntWalk.i64_in _ (by omega)
    rcases hf with ⟨m, hc⟩ | ⟨V, hV, m, hc, hc2⟩
    · rw [m] at MR
      exact chances_pn tn rn n d w _ _ _ _ _ _ _ _ _ _ _ _ _ _ _ _ (by omega) C3 D2 T0 TA FA MR TB TC FB FC hw1 hw2 hw3 hm1 hm2 hm3 hm4 (by omega) CL CC (fun w => tail_ok tn tn htn (Nat.le_refl _) w) (frac_ok htn (Nat.le_refl _)) (fun w => CM tn (Nat.le_refl _) w) hc
    · rw [m] at MR
      by_cases hV0 : V = 0
      · subst hV0
        exact chances_p0 tn rn n d w _ _ _ _ _ _ _ _ _ _ _ _ _ _ _ _ (by omega) C3 D2 T0 TA FA MR TB TC FB FC hw1 hw2 hw3 hm1 hm2 hm3 hm4 (by omega) CL CC (WI 0 hV) (fun w => tail_ok tn 0 htn hV w) (frac_ok htn hV) (fun w => CM 0 hV w) hc
      · exact chances_pv tn rn n d w _ _ _ _ _ _ _ _ _ _ _ _ _ _ _ _ V (V - 1) _ _ _ (by omega) C3 D2 T0 TA FA MR TB TC FB FC hw1 hw2 hw3 hm1 hm2 hm3 hm4 (by omega) CL CC (WI V hV) (fun w => tail_ok tn V htn hV w) (frac_ok htn hV) (fun w => CM V hV w) hc (by omega) (by rw [IntWalk.i64_in _ (by omega)]; omega) (fun w => tail_ok tn (V - 1) htn (by omega) w) (frac_ok htn (by omega)) (fun w => CM (V - 1) (by omega) w) (hc2 (by omega))

end Go.Proofs.Ytlpkjkjgmenhkaa

namespace Go.Proofs.Ytlpkjkjgmenhkaa.op
open Go.ChangeShapes Go.WideShapes Go.ChangeAt Go.RowKit

theorem own : ownKnob Try.prog.godebug = none := by kernel_rfl
theorem laidOut : laidOutB Try.prog = true := by kernel_rfl
theorem cellsInt1 : Try.prog.cellsOf 3 = 1 := by kernel_rfl
theorem cellsI : Try.prog.cellsOf 3 = 1 := cellsInt1
theorem cellsInts : Try.prog.cellsOf 43 = 1 := by kernel_rfl
theorem lt_of_cell {w : World} {a : Addr} {v : Value} (h : w.cell? a = some v) : a.block < w.heap.size := World.block_lt_of_cell? _ _ h

set_option maxRecDepth 100000 in
theorem open_frac {H : Type} {enc : TypeId × Value → H} {w : World} {base : Nat} {spare : Nat → Bool} {held : Bool} {r : Reach} {b0 : Nat} {v : Value} {d : DataW H} {p : List MemPlace}
    (hv : Value.okWide Try.prog w r b0 23 v) (h : DataW.Trod enc Try.prog w base spare held 23 v d p) :
    ∃ z0 z1 : Int, v = .agg #[.int .i64 z0, .int .i64 z1] := by
  obtain ⟨cs, rfl, hsz⟩ := okWide_struct Try.underlying23 hv
  obtain ⟨fuel, hf⟩ := h
  obtain ⟨xs, n, _, _, hl, hxl, hg⟩ := DataW.trod_struct Try.underlying23 hf
  have h3 : Try.prog.cellsOf 23 = 2 := by kernel_rfl
  obtain ⟨l⟩ := cs
  have hl3 : l.length = 2 := by rw [← h3]; simpa using hsz
  match l, hl3, xs, hxl with
  | [c0, c1], _, [y0, y1], _ =>
    have g0 := hg 0 _ rfl
    have g1 := hg 1 _ rfl
    simp [Value.cells, cellsI] at g0 g1
    obtain ⟨z0, e0, _, _⟩ := DataW.trod_int Try.underlying3 g0
    obtain ⟨z1, e1, _, _⟩ := DataW.trod_int Try.underlying3 g1
    simp at e0 e1
    exact ⟨z0, z1, by rw [e0, e1]⟩

set_option maxRecDepth 100000 in
theorem open_test {H : Type} {enc : TypeId × Value → H} {w : World} {base : Nat} {spare : Nat → Bool} {held : Bool} {r : Reach} {b0 : Nat} {v : Value} {d : DataW H} {p : List MemPlace}
    (hv : Value.okWide Try.prog w r b0 108 v) (h : DataW.Trod enc Try.prog w base spare held 108 v d p) :
    ∃ z0 z1 z2 : Int, v = .agg #[.int .i64 z0, .int .i64 z1, .int .i64 z2] := by
  obtain ⟨cs, rfl, hsz⟩ := okWide_struct Try.underlying108 hv
  obtain ⟨fuel, hf⟩ := h
  obtain ⟨xs, n, _, _, hl, hxl, hg⟩ := DataW.trod_struct Try.underlying108 hf
  have h3 : Try.prog.cellsOf 108 = 3 := by kernel_rfl
  obtain ⟨l⟩ := cs
  have hl3 : l.length = 3 := by rw [← h3]; simpa using hsz
  match l, hl3, xs, hxl with
  | [c0, c1, c2], _, [y0, y1, y2], _ =>
    have g0 := hg 0 _ rfl
    have g1 := hg 1 _ rfl
    have g2 := hg 2 _ rfl
    simp [Value.cells, cellsI] at g0 g1 g2
    obtain ⟨z0, e0, _, _⟩ := DataW.trod_int Try.underlying3 g0
    obtain ⟨z1, e1, _, _⟩ := DataW.trod_int Try.underlying3 g1
    obtain ⟨z2, e2, _, _⟩ := DataW.trod_int Try.underlying3 g2
    simp at e0 e1 e2
    exact ⟨z0, z1, z2, by rw [e0, e1, e2]⟩

set_option maxRecDepth 100000 in
theorem open_meter {H : Type} {enc : TypeId × Value → H} {w : World} {base : Nat} {spare : Nat → Bool} {held : Bool} {r : Reach} {b0 : Nat} {v : Value} {d : DataW H} {p : List MemPlace}
    (hv : Value.okWide Try.prog w r b0 42 v) (h : DataW.Trod enc Try.prog w base spare held 42 v d p) :
    ∃ z0 z1 z2 z3 : Int, v = .agg #[.int .i64 z0, .int .i64 z1, .int .i64 z2, .int .i64 z3] := by
  obtain ⟨cs, rfl, hsz⟩ := okWide_struct Try.underlying42 hv
  obtain ⟨fuel, hf⟩ := h
  obtain ⟨xs, n, _, _, hl, hxl, hg⟩ := DataW.trod_struct Try.underlying42 hf
  have h3 : Try.prog.cellsOf 42 = 4 := by kernel_rfl
  obtain ⟨l⟩ := cs
  have hl3 : l.length = 4 := by rw [← h3]; simpa using hsz
  match l, hl3, xs, hxl with
  | [c0, c1, c2, c3], _, [y0, y1, y2, y3], _ =>
    have g0 := hg 0 _ rfl
    have g1 := hg 1 _ rfl
    have g2 := hg 2 _ rfl
    have g3 := hg 3 _ rfl
    simp [Value.cells, cellsI] at g0 g1 g2 g3
    obtain ⟨z0, e0, _, _⟩ := DataW.trod_int Try.underlying3 g0
    obtain ⟨z1, e1, _, _⟩ := DataW.trod_int Try.underlying3 g1
    obtain ⟨z2, e2, _, _⟩ := DataW.trod_int Try.underlying3 g2
    obtain ⟨z3, e3, _, _⟩ := DataW.trod_int Try.underlying3 g3
    simp at e0 e1 e2 e3
    exact ⟨z0, z1, z2, z3, by rw [e0, e1, e2, e3]⟩

/-- Numbers as they come in. -/
theorem open_rd {H : Type} {enc : TypeId × Value → H} {w : World} {base : Nat} {spare : Nat → Bool} {held : Bool} {A : Option Addr} {n c : Nat} {d : DataW H} {p : List MemPlace}
    (h : DataW.Trod enc Try.prog w base spare held 43 (.slice A n c) d p) : ∃ l, RdI w A n l ∧ n ≤ c ∧ c ≤ 9223372036854775807 ∧ (A = none → n = 0 ∧ c = 0) := by
  obtain ⟨fuel, hf⟩ := h
  rcases open_ints Try.underlying43 Try.underlying3 cellsInt1 hf with ⟨hcs, _⟩ | ⟨a, len, cap, zs, hcs, _, hl, hm, hz, _, hcell, _⟩
  · simp [Value.cells] at hcs
    obtain ⟨rfl, rfl, rfl⟩ := hcs
    exact ⟨[], ⟨rfl, fun h => absurd h (by omega)⟩, by omega, by omega, fun _ => ⟨rfl, rfl⟩⟩
  · simp [Value.cells] at hcs
    obtain ⟨rfl, rfl, rfl⟩ := hcs
    have hlen : n ≤ zs.length := by rw [hz]; split <;> omega
    refine ⟨zs.take n, ⟨by rw [List.length_take]; omega, fun hn => ⟨a, rfl, ?_, fun j hj => ?_⟩⟩, hl, by unfold maxLen at hm; omega, fun h => by cases h⟩
    · have := lt_of_cell (hcell 0 (by omega))
      rwa [addBlock] at this
    · rw [hcell j (by omega)]
      simp [List.getD_eq_getElem?_getD, List.getElem?_take, hj]

/-- Numbers of a field as they come in. -/
theorem open_rdf {H : Type} {enc : TypeId × Value → H} {w : World} {base : Nat} {spare : Nat → Bool} {held : Bool} {fuel : Nat} {v : Value} {x : DataW H × List MemPlace}
    (hf : DataW.trod enc Try.prog w base spare held fuel 43 [v] = some x) : ∃ A n c l, v = .slice A n c ∧ RdI w A n l ∧ n ≤ c ∧ c ≤ 9223372036854775807 ∧ (A = none → n = 0 ∧ c = 0) := by
  rcases open_ints Try.underlying43 Try.underlying3 cellsInt1 hf with ⟨hcs, _⟩ | ⟨a, len, cap, zs, hcs, _, hl, hm, hz, _, hcell, _⟩
  · injection hcs with hcs
    exact ⟨none, 0, 0, [], hcs, ⟨rfl, fun h => absurd h (by omega)⟩, by omega, by omega, fun _ => ⟨rfl, rfl⟩⟩
  · injection hcs with hcs
    have hlen : len ≤ zs.length := by rw [hz]; split <;> omega
    refine ⟨some a, len, cap, zs.take len, hcs, ⟨by rw [List.length_take]; omega, fun hn => ⟨a, rfl, ?_, fun j hj => ?_⟩⟩, hl, by unfold maxLen at hm; omega, fun h => by cases h⟩
    · have := lt_of_cell (hcell 0 (by omega))
      rwa [addBlock] at this
    · rw [hcell j (by omega)]
      simp [List.getD_eq_getElem?_getD, List.getElem?_take, hj]
end Go.Proofs.Ytlpkjkjgmenhkaa.op

namespace Go.Proofs.Ytlpkjkjgmenhkaa.op
open Go.ChangeShapes Go.WideShapes Go.ChangeAt Go.RowKit

set_option maxRecDepth 100000 in
theorem openb_frac {H : Type} {enc : TypeId × Value → H} {w : World} {base : Nat} {spare : Nat → Bool} {held : Bool} {r : Reach} {b0 : Nat} {v : Value} {d : DataW H} {p : List MemPlace}
    (hv : Value.okWide Try.prog w r b0 23 v) (h : DataW.Trod enc Try.prog w base spare held 23 v d p) :
    ∃ z0 z1 : Int, v = .agg #[.int .i64 z0, .int .i64 z1] ∧ (-9223372036854775808 ≤ z0 ∧ z0 ≤ 9223372036854775807) ∧ (-9223372036854775808 ≤ z1 ∧ z1 ≤ 9223372036854775807) := by
  obtain ⟨cs, rfl, hsz⟩ := okWide_struct Try.underlying23 hv
  obtain ⟨fuel, hf⟩ := h
  obtain ⟨xs, n, _, _, hl, hxl, hg⟩ := DataW.trod_struct Try.underlying23 hf
  have h3 : Try.prog.cellsOf 23 = 2 := by kernel_rfl
  obtain ⟨l⟩ := cs
  have hl3 : l.length = 2 := by rw [← h3]; simpa using hsz
  match l, hl3, xs, hxl with
  | [c0, c1], _, [y0, y1], _ =>
    have g0 := hg 0 _ rfl
    have g1 := hg 1 _ rfl
    simp [Value.cells, cellsI] at g0 g1
    obtain ⟨z0, e0, _, f0⟩ := DataW.trod_int Try.underlying3 g0
    obtain ⟨z1, e1, _, f1⟩ := DataW.trod_int Try.underlying3 g1
    simp at e0 e1
    exact ⟨z0, z1, by rw [e0, e1], bounds_i64 f0, bounds_i64 f1⟩

set_option maxRecDepth 100000 in
theorem openb_meter {H : Type} {enc : TypeId × Value → H} {w : World} {base : Nat} {spare : Nat → Bool} {held : Bool} {r : Reach} {b0 : Nat} {v : Value} {d : DataW H} {p : List MemPlace}
    (hv : Value.okWide Try.prog w r b0 42 v) (h : DataW.Trod enc Try.prog w base spare held 42 v d p) :
    ∃ z0 z1 z2 z3 : Int, v = .agg #[.int .i64 z0, .int .i64 z1, .int .i64 z2, .int .i64 z3] ∧ (-9223372036854775808 ≤ z0 ∧ z0 ≤ 9223372036854775807) ∧ (-9223372036854775808 ≤ z1 ∧ z1 ≤ 9223372036854775807) ∧ (-9223372036854775808 ≤ z2 ∧ z2 ≤ 9223372036854775807) ∧ (-9223372036854775808 ≤ z3 ∧ z3 ≤ 9223372036854775807) := by
  obtain ⟨cs, rfl, hsz⟩ := okWide_struct Try.underlying42 hv
  obtain ⟨fuel, hf⟩ := h
  obtain ⟨xs, n, _, _, hl, hxl, hg⟩ := DataW.trod_struct Try.underlying42 hf
  have h3 : Try.prog.cellsOf 42 = 4 := by kernel_rfl
  obtain ⟨l⟩ := cs
  have hl3 : l.length = 4 := by rw [← h3]; simpa using hsz
  match l, hl3, xs, hxl with
  | [c0, c1, c2, c3], _, [y0, y1, y2, y3], _ =>
    have g0 := hg 0 _ rfl
    have g1 := hg 1 _ rfl
    have g2 := hg 2 _ rfl
    have g3 := hg 3 _ rfl
    simp [Value.cells, cellsI] at g0 g1 g2 g3
    obtain ⟨z0, e0, _, f0⟩ := DataW.trod_int Try.underlying3 g0
    obtain ⟨z1, e1, _, f1⟩ := DataW.trod_int Try.underlying3 g1
    obtain ⟨z2, e2, _, f2⟩ := DataW.trod_int Try.underlying3 g2
    obtain ⟨z3, e3, _, f3⟩ := DataW.trod_int Try.underlying3 g3
    simp at e0 e1 e2 e3
    exact ⟨z0, z1, z2, z3, by rw [e0, e1, e2, e3], bounds_i64 f0, bounds_i64 f1, bounds_i64 f2, bounds_i64 f3⟩

theorem openb_int {H : Type} {enc : TypeId × Value → H} {w : World} {base : Nat} {spare : Nat → Bool} {held : Bool} {z : Int} {d : DataW H} {p : List MemPlace}
    (h : DataW.Trod enc Try.prog w base spare held 3 (.int .i64 z) d p) : -9223372036854775808 ≤ z ∧ z ≤ 9223372036854775807 := by
  obtain ⟨fuel, hf⟩ := h
  obtain ⟨z0, e0, _, f0⟩ := DataW.trod_int Try.underlying3 hf
  simp [Value.cells] at e0
  subst e0
  exact bounds_i64 f0
end Go.Proofs.Ytlpkjkjgmenhkaa.op

