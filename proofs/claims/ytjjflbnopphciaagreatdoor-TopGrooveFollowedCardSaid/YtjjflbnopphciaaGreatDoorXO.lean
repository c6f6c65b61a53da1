import Derived.Test.YtjjflbnopphciaaGreatDoorXL
import Derived.Test.YtjjflbnopphciaaGreatDoorXF
import Derived.Test.YtjjflbnopphciaaGreatDoorXE
import Derived.Test.YtjjflbnopphciaaGreatDoorRows
import Derived.Test.YtjjflbnopphciaaGreatDoorTie
import Derived.ProofKit
import Derived.LaidMore
import Derived.OpenShut
import Derived.Stop.Joined
import Derived.Lib.LaidTab
import Derived.Deep.Slices
import Derived.Stop.LaidErr
import Derived.LaidLaws
namespace Go.Proofs.YtjjflbnopphciaaGreatDoor
open Go.RowKit

theorem below_drewN (w : World) (k : Nat) : Below w.heap.size w (w.drewN k) := ⟨rfl, rfl, rfl, Nat.le_refl _, fun i hi => rfl⟩
theorem pos_okG {xs : List Int} (h : posE xs = 0) : xs.length ≤ 200 ∧ ∀ x ∈ xs, -1000000 ≤ x ∧ x ≤ 1000000 := by
  unfold posE at h
  by_cases h1 : 200 < xs.length
  · rw [if_pos h1] at h; omega
  · rw [if_neg h1] at h
    by_cases h2 : fromB (-1000000) 1000000 xs = true
    · refine ⟨by omega, fun x hx => ?_⟩
      unfold fromB at h2
      rw [List.all_eq_true] at h2
      simpa using h2 x hx
    · rw [if_neg h2] at h; omega

set_option maxRecDepth 100000 in
set_option maxHeartbeats 4000000 in
theorem gs_long (A : Option Addr) (n c : Nat) (s : ByteArray) (w : World) (hl : LaidG w) (hn : ¬ n ≤ 203) :
    Calls Tryz.prog 3 #[.slice A n c, .string s] w fun e w' => e = .returned (.bool true) ∧ Below w.heap.size w w' := by
  have CAW := Lib.hid (awake_any w hl.sd)
  have CLONG : Hid (∀ (W : World) (c : Nat), Calls Tryz.prog 6 #[.slice A n c] W fun e w' => e = .returned (.bool false) ∧ W = w') := fun W c => by have h := long_any A n c W; rw [decide_eq_false hn] at h; exact h

  clear hl
  go_enter Tryz.func3, Tryz.ntmps3
  go_wp2_with fail
  refine CAW.out.mono ?_
  rintro e w1 ⟨rfl, hb1⟩
  have B1 := Lib.hid hb1
  clear hb1 CAW
  go_wp2_with fail
  refine (CLONG.out _ _).mono ?_
  rintro e w1' ⟨rfl, hw⟩
  obtain rfl := hw
  go_wp2
  go_ret
  exact ⟨rfl, B1.out⟩

set_option maxRecDepth 100000 in
set_option maxHeartbeats 4000000 in
theorem gs_mid (A : Option Addr) (n c : Nat) (s : ByteArray) (w : World) (hl : LaidG w) (hn : n ≤ 203) (h1 : 200 < s.size) (h2 : s.size ≤ 60000) :
    Calls Tryz.prog 3 #[.slice A n c, .string s] w fun e w' => e = .returned (.bool true) ∧ Below w.heap.size w w' := by
  have CAW := Lib.hid (awake_any w hl.sd)
  have CLONG : Hid (∀ (W : World) (c : Nat), Calls Tryz.prog 6 #[.slice A n c] W fun e w' => e = .returned (.bool true) ∧ W = w') := fun W c => by have h := long_any A n c W; rw [decide_eq_true hn] at h; exact h
  have g1 : (200 : Int) < (s.size : Int) := by omega
  have g2 : (s.size : Int) ≤ 60000 := by omega
  clear h1 h2
  clear hl
  go_enter Tryz.func3, Tryz.ntmps3
  go_wp2_with fail
  refine CAW.out.mono ?_
  rintro e w1 ⟨rfl, hb1⟩
  have B1 := Lib.hid hb1
  clear hb1 CAW
  go_wp2_with fail
  refine (CLONG.out _ _).mono ?_
  rintro e w1' ⟨rfl, hw⟩
  obtain rfl := hw
  go_wp2
  go_ret
  exact ⟨rfl, B1.out⟩

set_option maxRecDepth 100000 in
set_option maxHeartbeats 4000000 in
theorem gs_big (A : Option Addr) (n c : Nat) (s : ByteArray) (w : World) (hl : LaidG w) (hn : n ≤ 203) (h1 : 60010 < s.size) :
    Calls Tryz.prog 3 #[.slice A n c, .string s] w fun e w' => e = .returned (.bool true) ∧ Below w.heap.size w w' := by
  have CAW := Lib.hid (awake_any w hl.sd)
  have CLONG : Hid (∀ (W : World) (c : Nat), Calls Tryz.prog 6 #[.slice A n c] W fun e w' => e = .returned (.bool true) ∧ W = w') := fun W c => by have h := long_any A n c W; rw [decide_eq_true hn] at h; exact h
  have g1 : (200 : Int) < (s.size : Int) := by omega
  have g2 : ¬ (s.size : Int) ≤ 60000 := by omega
  have g3 : (60010 : Int) < (s.size : Int) := by omega
  clear h1
  clear hl
  go_enter Tryz.func3, Tryz.ntmps3
  go_wp2_with fail
  refine CAW.out.mono ?_
  rintro e w1 ⟨rfl, hb1⟩
  have B1 := Lib.hid hb1
  clear hb1 CAW
  go_wp2_with fail
  refine (CLONG.out _ _).mono ?_
  rintro e w1' ⟨rfl, hw⟩
  obtain rfl := hw
  go_wp2
  go_ret
  exact ⟨rfl, B1.out⟩

set_option maxRecDepth 100000 in
set_option maxHeartbeats 8000000 in
theorem gs_A (A : Option Addr) (n c : Nat) (xs : List Int) (s : ByteArray) (w : World) (hl : LaidG w) (hA : A = none → n = 0 ∧ c = 0) (hr : RdI w A n xs) (hx : I64 xs) (hn : n ≤ 203) (hs : s.size ≤ 200) :
    Calls Tryz.prog 3 #[.slice A n c, .string s] w fun e w' => e = .returned (.bool true) ∧ Below w.heap.size w w' := by
  have HL := Lib.hid hl
  have HA := Lib.hid hA
  have HR := Lib.hid hr
  have HX := Lib.hid hx
  have HLN : Hid (xs.length = n) := hr.1
  have CLONG : Hid (∀ (W : World) (c : Nat), Calls Tryz.prog 6 #[.slice A n c] W fun e w' => e = .returned (.bool true) ∧ W = w') := fun W c => by have h := long_any A n c W; rw [decide_eq_true hn] at h; exact h
  have CAW := Lib.hid (awake_any w hl.sd)
  have g1 : ¬ (200 : Int) < (s.size : Int) := by omega
  have g3 : ¬ (60010 : Int) < (s.size : Int) := by omega

  obtain ⟨T, hT⟩ : ∃ T, (⟨(joinP xs).toArray⟩ : ByteArray) = T := ⟨_, rfl⟩
  have hTz : T.size ≤ 4263 := by
    rw [← hT, bytes_size]
    have := joinP_len xs hx
    rw [HLN.out] at this
    omega
  have HN : Hid (n ≤ 1000 ∧ n ≤ 1000000 ∧ n ≤ 9223372036854775806) := by show _ ∧ _ ∧ _; omega
  have CF : Hid (∀ W A c, LaidG W → RdI W A n xs → Calls Tryz.prog 7 #[.slice A n c] W fun e w' => e = .returned (.string T) ∧ Below W.heap.size W w') := fun W A c h1 h2 => by rw [← hT]; exact formatPath_any A n c xs W h1 h2 HN.out.1 HX.out
  have CG : Hid (∀ W A c, RdI W A n xs → Calls Tryz.prog 11 #[.slice A n c] W fun e w' => e = .returned (.string T) ∧ Below W.heap.size W w') := fun W A c h2 => by rw [← hT]; exact join_any A n c xs W h2 HN.out.1 HX.out HLN.out
  obtain ⟨PL, hPL⟩ : ∃ L, ppL s = L := ⟨_, rfl⟩
  obtain ⟨PE, hPE⟩ : ∃ E, ppE s = E := ⟨_, rfl⟩
  have HPL : Hid (PL.length ≤ 9223372036854775806) := by show _ ≤ _; rw [← hPL]; have := ppL_len s; omega
  have CP : Hid (∀ W, LaidG W → Calls Tryz.prog 9 #[.string s] W (OwnRes W PE PL)) := fun W h => by rw [← hPE, ← hPL]; exact parsePath_any s W h (by omega)
  have CQ : Hid (∀ W, Calls Tryz.prog 10 #[.string s] W (OwnRes W PE PL)) := fun W => by rw [← hPE, ← hPL]; exact refParse_any s W (by omega)
  obtain ⟨D, hD⟩ : ∃ E, posE xs = E := ⟨_, rfl⟩
  have CE : Hid (∀ W A c, RdI W A n xs → Calls Tryz.prog 13 #[.slice A n c] W fun e w' => e = .returned (.int .i64 D) ∧ W = w') := fun W A c h => by rw [← hD]; exact refPosErr_any A n c xs W h HN.out.2.2
  have CB : Hid (D = 0 → ∀ W, LaidG W → Calls Tryz.prog 9 #[.string T] W (OwnRes W 0 xs)) := fun h0 W h => by
    have h1 := pos_okG (hD.trans h0)
    have h2 := parsePath_any T W h (by omega)
    have h3 := pathS_join xs (hD.trans h0) h1.2 h1.1
    unfold ppE ppL at h2
    rw [← hT, h3] at h2
    rw [← hT]
    exact h2
  have hTT : (T.toList == T.toList) = true := by simp
  have hEE : (PE != PE) = false := by simp
  have HXL : Hid (xs.length ≤ 9223372036854775806) := by show _ ≤ _; rw [HLN.out]; exact HN.out.2.2
  clear hl hA hr hx hT hPL hPE hD hn hTz
  go_enter Tryz.func3, Tryz.ntmps3
  go_wp2_with fail
  refine CAW.out.mono ?_
  rintro e w1 ⟨rfl, hb1⟩
  have B1 := Lib.hid hb1
  have L1 := Lib.hid (HL.out.later hb1)
  have R1 := Lib.hid (HR.out.below hb1)
  clear hb1 CAW
  go_wp2_with fail
  refine (CLONG.out _ _).mono ?_
  rintro e w1' ⟨rfl, hw⟩
  obtain rfl := hw
  go_wp2_with fail
  refine (copyInts_any A n c xs w1 HA.out R1.out HN.out.2.1).mono ?_
  rintro e w2 ⟨⟨v2, rfl, ho2⟩, hb2⟩
  have B2 := Lib.hid (B1.out.trans (hb2.mono B1.out.size))
  have L2 := Lib.hid (L1.out.later hb2)
  have R2 := Lib.hid (R1.out.below hb2)
  obtain ⟨A2, c2, rfl, _, hrd2, _⟩ := rd_ownN (n := xs.length) ho2
  rw [HLN.out] at hrd2
  rw [HLN.out]
  have S2 := Lib.hid hrd2
  clear hb2 ho2 hrd2 B1 L1 R1 CLONG
  go_wp2_with fail
  refine (CF.out _ _ _ L2.out S2.out).mono ?_
  rintro e w3 ⟨rfl, hb3⟩
  have B3 := Lib.hid (B2.out.trans (hb3.mono B2.out.size))
  have L3 := Lib.hid (L2.out.later hb3)
  have R3 := Lib.hid (R2.out.below hb3)
  clear hb3 B2 L2 R2 S2
  go_wp2_with fail
  refine (CP.out _ L3.out).mono ?_
  rintro e w4 ⟨⟨v4, rfl, ho4⟩, hb4⟩
  have B4 := Lib.hid (B3.out.trans (hb4.mono B3.out.size))
  have L4 := Lib.hid (L3.out.later hb4)
  have R4 := Lib.hid (R3.out.below hb4)
  obtain ⟨A4, c4, rfl, _, hrd4, _⟩ := rd_ownN (n := PL.length) ho4
  have S4 := Lib.hid hrd4
  clear hb4 ho4 hrd4 B3 L3 R3
  go_wp2_with fail
  refine (CQ.out _).mono ?_
  rintro e w5 ⟨⟨v5, rfl, ho5⟩, hb5⟩
  have B5 := Lib.hid (B4.out.trans (hb5.mono B4.out.size))
  have L5 := Lib.hid (L4.out.later hb5)
  have R5 := Lib.hid (R4.out.below hb5)
  have S5 := Lib.hid (S4.out.below hb5)
  obtain ⟨A5, c5, rfl, _, hrd5, _⟩ := rd_ownN (n := PL.length) ho5
  have T5 := Lib.hid hrd5
  clear hb5 ho5 hrd5 B4 L4 R4 S4
  go_wp2_with fail
  refine (CG.out _ _ _ R5.out).mono ?_
  rintro e w6 ⟨rfl, hb6⟩
  have B6 := Lib.hid (B5.out.trans (hb6.mono B5.out.size))
  have L6 := Lib.hid (L5.out.later hb6)
  have R6 := Lib.hid (R5.out.below hb6)
  have S6 := Lib.hid (S5.out.below hb6)
  have T6 := Lib.hid (T5.out.below hb6)
  clear hb6 B5 L5 R5 S5 T5
  go_wp2_with fail
  refine (ints_any _ _ _ _ _ _ PL PL w6 S6.out T6.out HPL.out HPL.out).mono ?_
  rintro e w7 ⟨rfl, k7, hw7⟩
  rw [decide_eq_true (show PL = PL from rfl)]
  have B7 : Hid (Below w.heap.size w w7) := by show Below _ _ _; rw [hw7]; exact B6.out.trans ((below_drewN w6 k7).mono B6.out.size)
  have L7 : Hid (LaidG w7) := by show LaidG _; rw [hw7]; exact L6.out.later (below_drewN w6 k7)
  have R7 : Hid (RdI w7 A n xs) := by show RdI _ _ _ _; rw [hw7]; exact R6.out.drewN k7
  clear hw7 B6 L6 R6 S6 T6
  go_wp2_with fail
  refine (CE.out _ _ _ R7.out).mono ?_
  rintro e w8 ⟨rfl, hw8⟩
  obtain rfl := hw8
  by_cases hD0 : D = 0
  · have CB0 := Lib.hid (CB.out hD0)
    subst hD0
    clear CB
    go_wp2_with fail
    refine (CB0.out _ L7.out).mono ?_
    rintro e w9 ⟨⟨v9, rfl, ho9⟩, hb9⟩
    have B9 := Lib.hid (B7.out.trans (hb9.mono B7.out.size))
    have R9 := Lib.hid (R7.out.below hb9)
    obtain ⟨A9, c9, rfl, _, hrd9, _⟩ := rd_ownN (n := xs.length) ho9
    have S9 := Lib.hid hrd9
    clear hb9 ho9 hrd9 B7 L7 R7
    go_wp2_with fail
    refine (ints_any _ _ _ _ _ _ xs xs w9 S9.out R9.out HXL.out HN.out.2.2).mono ?_
    rintro e w10 ⟨rfl, k10, hw10⟩
    rw [decide_eq_true (show xs = xs from rfl)]
    have B10 : Hid (Below w.heap.size w w10) := by show Below _ _ _; rw [hw10]; exact B9.out.trans ((below_drewN w9 k10).mono B9.out.size)
    clear hw10 B9 R9 S9
    go_wp2
    go_ret
    exact ⟨rfl, B10.out⟩
  · have hDn : (D != 0) = true := by simpa using hD0
    clear CB hD0
    go_wp2
    go_ret
    exact ⟨rfl, B7.out⟩

set_option maxRecDepth 100000 in
set_option maxHeartbeats 8000000 in
theorem gs_B (A : Option Addr) (n c : Nat) (xs : List Int) (s : ByteArray) (w : World) (hl : LaidG w) (hA : A = none → n = 0 ∧ c = 0) (hr : RdI w A n xs) (hx : I64 xs) (hn : n ≤ 203) (hs : s.size ≤ 60010) (hs2 : 60000 < s.size) :
    Calls Tryz.prog 3 #[.slice A n c, .string s] w fun e w' => e = .returned (.bool true) ∧ Below w.heap.size w w' := by
  have HL := Lib.hid hl
  have HA := Lib.hid hA
  have HR := Lib.hid hr
  have HX := Lib.hid hx
  have HLN : Hid (xs.length = n) := hr.1
  have CLONG : Hid (∀ (W : World) (c : Nat), Calls Tryz.prog 6 #[.slice A n c] W fun e w' => e = .returned (.bool true) ∧ W = w') := fun W c => by have h := long_any A n c W; rw [decide_eq_true hn] at h; exact h
  have CAW := Lib.hid (awake_any w hl.sd)
  have g1 : (200 : Int) < (s.size : Int) := by omega
  have g2 : ¬ (s.size : Int) ≤ 60000 := by omega
  have g3 : ¬ (60010 : Int) < (s.size : Int) := by omega

  obtain ⟨T, hT⟩ : ∃ T, (⟨(joinP xs).toArray⟩ : ByteArray) = T := ⟨_, rfl⟩
  have hTz : T.size ≤ 4263 := by
    rw [← hT, bytes_size]
    have := joinP_len xs hx
    rw [HLN.out] at this
    omega
  have HN : Hid (n ≤ 1000 ∧ n ≤ 1000000 ∧ n ≤ 9223372036854775806) := by show _ ∧ _ ∧ _; omega
  have CF : Hid (∀ W A c, LaidG W → RdI W A n xs → Calls Tryz.prog 7 #[.slice A n c] W fun e w' => e = .returned (.string T) ∧ Below W.heap.size W w') := fun W A c h1 h2 => by rw [← hT]; exact formatPath_any A n c xs W h1 h2 HN.out.1 HX.out
  have CG : Hid (∀ W A c, RdI W A n xs → Calls Tryz.prog 11 #[.slice A n c] W fun e w' => e = .returned (.string T) ∧ Below W.heap.size W w') := fun W A c h2 => by rw [← hT]; exact join_any A n c xs W h2 HN.out.1 HX.out HLN.out
  obtain ⟨PL, hPL⟩ : ∃ L, ppL s = L := ⟨_, rfl⟩
  obtain ⟨PE, hPE⟩ : ∃ E, ppE s = E := ⟨_, rfl⟩
  have HPL : Hid (PL.length ≤ 9223372036854775806) := by show _ ≤ _; rw [← hPL]; have := ppL_len s; omega
  have CP : Hid (∀ W, LaidG W → Calls Tryz.prog 9 #[.string s] W (OwnRes W PE PL)) := fun W h => by rw [← hPE, ← hPL]; exact parsePath_any s W h (by omega)
  have CQ : Hid (∀ W, Calls Tryz.prog 10 #[.string s] W (OwnRes W PE PL)) := fun W => by rw [← hPE, ← hPL]; exact refParse_any s W (by omega)
  obtain ⟨D, hD⟩ : ∃ E, posE xs = E := ⟨_, rfl⟩
  have CE : Hid (∀ W A c, RdI W A n xs → Calls Tryz.prog 13 #[.slice A n c] W fun e w' => e = .returned (.int .i64 D) ∧ W = w') := fun W A c h => by rw [← hD]; exact refPosErr_any A n c xs W h HN.out.2.2
  have CB : Hid (D = 0 → ∀ W, LaidG W → Calls Tryz.prog 9 #[.string T] W (OwnRes W 0 xs)) := fun h0 W h => by
    have h1 := pos_okG (hD.trans h0)
    have h2 := parsePath_any T W h (by omega)
    have h3 := pathS_join xs (hD.trans h0) h1.2 h1.1
    unfold ppE ppL at h2
    rw [← hT, h3] at h2
    rw [← hT]
    exact h2
  have hTT : (T.toList == T.toList) = true := by simp
  have hEE : (PE != PE) = false := by simp
  have HXL : Hid (xs.length ≤ 9223372036854775806) := by show _ ≤ _; rw [HLN.out]; exact HN.out.2.2
  clear hl hA hr hx hT hPL hPE hD hn hTz
  go_enter Tryz.func3, Tryz.ntmps3
  go_wp2_with fail
  refine CAW.out.mono ?_
  rintro e w1 ⟨rfl, hb1⟩
  have B1 := Lib.hid hb1
  have L1 := Lib.hid (HL.out.later hb1)
  have R1 := Lib.hid (HR.out.below hb1)
  clear hb1 CAW
  go_wp2_with fail
  refine (CLONG.out _ _).mono ?_
  rintro e w1' ⟨rfl, hw⟩
  obtain rfl := hw
  go_wp2_with fail
  refine (copyInts_any A n c xs w1 HA.out R1.out HN.out.2.1).mono ?_
  rintro e w2 ⟨⟨v2, rfl, ho2⟩, hb2⟩
  have B2 := Lib.hid (B1.out.trans (hb2.mono B1.out.size))
  have L2 := Lib.hid (L1.out.later hb2)
  have R2 := Lib.hid (R1.out.below hb2)
  obtain ⟨A2, c2, rfl, _, hrd2, _⟩ := rd_ownN (n := xs.length) ho2
  rw [HLN.out] at hrd2
  rw [HLN.out]
  have S2 := Lib.hid hrd2
  clear hb2 ho2 hrd2 B1 L1 R1 CLONG
  go_wp2_with fail
  refine (CF.out _ _ _ L2.out S2.out).mono ?_
  rintro e w3 ⟨rfl, hb3⟩
  have B3 := Lib.hid (B2.out.trans (hb3.mono B2.out.size))
  have L3 := Lib.hid (L2.out.later hb3)
  have R3 := Lib.hid (R2.out.below hb3)
  clear hb3 B2 L2 R2 S2
  go_wp2_with fail
  refine (CP.out _ L3.out).mono ?_
  rintro e w4 ⟨⟨v4, rfl, ho4⟩, hb4⟩
  have B4 := Lib.hid (B3.out.trans (hb4.mono B3.out.size))
  have L4 := Lib.hid (L3.out.later hb4)
  have R4 := Lib.hid (R3.out.below hb4)
  obtain ⟨A4, c4, rfl, _, hrd4, _⟩ := rd_ownN (n := PL.length) ho4
  have S4 := Lib.hid hrd4
  clear hb4 ho4 hrd4 B3 L3 R3
  go_wp2_with fail
  refine (CQ.out _).mono ?_
  rintro e w5 ⟨⟨v5, rfl, ho5⟩, hb5⟩
  have B5 := Lib.hid (B4.out.trans (hb5.mono B4.out.size))
  have L5 := Lib.hid (L4.out.later hb5)
  have R5 := Lib.hid (R4.out.below hb5)
  have S5 := Lib.hid (S4.out.below hb5)
  obtain ⟨A5, c5, rfl, _, hrd5, _⟩ := rd_ownN (n := PL.length) ho5
  have T5 := Lib.hid hrd5
  clear hb5 ho5 hrd5 B4 L4 R4 S4
  go_wp2_with fail
  refine (CG.out _ _ _ R5.out).mono ?_
  rintro e w6 ⟨rfl, hb6⟩
  have B6 := Lib.hid (B5.out.trans (hb6.mono B5.out.size))
  have L6 := Lib.hid (L5.out.later hb6)
  have R6 := Lib.hid (R5.out.below hb6)
  have S6 := Lib.hid (S5.out.below hb6)
  have T6 := Lib.hid (T5.out.below hb6)
  clear hb6 B5 L5 R5 S5 T5
  go_wp2_with fail
  refine (ints_any _ _ _ _ _ _ PL PL w6 S6.out T6.out HPL.out HPL.out).mono ?_
  rintro e w7 ⟨rfl, k7, hw7⟩
  rw [decide_eq_true (show PL = PL from rfl)]
  have B7 : Hid (Below w.heap.size w w7) := by show Below _ _ _; rw [hw7]; exact B6.out.trans ((below_drewN w6 k7).mono B6.out.size)
  have L7 : Hid (LaidG w7) := by show LaidG _; rw [hw7]; exact L6.out.later (below_drewN w6 k7)
  have R7 : Hid (RdI w7 A n xs) := by show RdI _ _ _ _; rw [hw7]; exact R6.out.drewN k7
  clear hw7 B6 L6 R6 S6 T6
  go_wp2_with fail
  refine (CE.out _ _ _ R7.out).mono ?_
  rintro e w8 ⟨rfl, hw8⟩
  obtain rfl := hw8
  by_cases hD0 : D = 0
  · have CB0 := Lib.hid (CB.out hD0)
    subst hD0
    clear CB
    go_wp2_with fail
    refine (CB0.out _ L7.out).mono ?_
    rintro e w9 ⟨⟨v9, rfl, ho9⟩, hb9⟩
    have B9 := Lib.hid (B7.out.trans (hb9.mono B7.out.size))
    have R9 := Lib.hid (R7.out.below hb9)
    obtain ⟨A9, c9, rfl, _, hrd9, _⟩ := rd_ownN (n := xs.length) ho9
    have S9 := Lib.hid hrd9
    clear hb9 ho9 hrd9 B7 L7 R7
    go_wp2_with fail
    refine (ints_any _ _ _ _ _ _ xs xs w9 S9.out R9.out HXL.out HN.out.2.2).mono ?_
    rintro e w10 ⟨rfl, k10, hw10⟩
    rw [decide_eq_true (show xs = xs from rfl)]
    have B10 : Hid (Below w.heap.size w w10) := by show Below _ _ _; rw [hw10]; exact B9.out.trans ((below_drewN w9 k10).mono B9.out.size)
    clear hw10 B9 R9 S9
    go_wp2
    go_ret
    exact ⟨rfl, B10.out⟩
  · have hDn : (D != 0) = true := by simpa using hD0
    clear CB hD0
    go_wp2
    go_ret
    exact ⟨rfl, B7.out⟩

theorem gs_any (A : Option Addr) (n c : Nat) (xs : List Int) (s : ByteArray) (w : World) (hl : LaidG w) (hA : A = none → n = 0 ∧ c = 0) (hr : RdI w A n xs) (hx : I64 xs) :
    Calls Tryz.prog 3 #[.slice A n c, .string s] w fun e w' => e = .returned (.bool true) ∧ Below w.heap.size w w' := by
  by_cases hn : n ≤ 203
  · by_cases h1 : s.size ≤ 200
    · exact gs_A A n c xs s w hl hA hr hx hn h1
    · by_cases h2 : s.size ≤ 60000
      · exact gs_mid A n c s w hl hn (by omega) h2
      · by_cases h3 : s.size ≤ 60010
        · exact gs_B A n c xs s w hl hA hr hx hn h3 (by omega)
        · exact gs_big A n c s w hl hn (by omega)
  · exact gs_long A n c s w hl hn
end Go.Proofs.YtjjflbnopphciaaGreatDoor

namespace Go.Proofs.YtjjflbnopphciaaGreatDoor
open Go.ChangeShapes Go.WideShapes Go.ChangeAt Go.RowKit

theorem own : ownKnob Tryz.prog.godebug = none := by kernel_rfl
theorem laidOut : laidOutB Tryz.prog = true := by kernel_rfl
theorem gSides : Tryz.prog.globalNamed "lacquer/groove.sides" = some 0 := by kernel_rfl
theorem tSides : (Tryz.prog.globals[0]?).map (·.type) = some 155 := by kernel_rfl
theorem underSides : Tryz.prog.underlying 155 = some (.array 5 154) := by kernel_rfl
theorem cellsInt1 : Tryz.prog.cellsOf 3 = 1 := by kernel_rfl
theorem cellsPt : Tryz.prog.cellsOf 43 = 2 := by kernel_rfl
theorem cellsSide : Tryz.prog.cellsOf 154 = 3 := by kernel_rfl

/-- What the rows of this seat list: the table of the sides. -/
def laidP : List (String × DataW Unit) := [("lacquer/groove.sides", Rows.laid_lacquer_groove_sides)]

section
variable {H : Type} {enc : TypeId × Value → H} {w : World} {base : Nat} {spare : Nat → Bool} {held : Bool} {fuel : Nat} {cs : List Value} {x : DataW H × List MemPlace}
theorem pt_cells {a b : Int} (h : DataW.trod enc Tryz.prog w base spare held fuel 43 cs = some x) (hx : x.1 = .agg [.lit (.int .i64 a), .lit (.int .i64 b)]) : cs = [.int .i64 a, .int .i64 b] := by
  obtain ⟨y0, y1, n, rfl, hl, h0, h1⟩ := trod_struct2 Tryz.underlying43 h
  rw [cellsPt] at hl
  dsimp only at h0 h1
  rw [cellsInt1] at h0 h1
  obtain ⟨n0, e0, rfl, _⟩ := DataW.trod_int Tryz.underlying3 h0
  obtain ⟨n1, e1, rfl, _⟩ := DataW.trod_int Tryz.underlying3 h1
  simp only [DataW.agg.injEq, List.cons.injEq, DataW.lit.injEq, Lit.int.injEq, true_and, and_true] at hx
  obtain ⟨rfl, rfl⟩ := hx
  match cs, hl with
  | [c0, c1], _ =>
    simp at e0 e1
    rw [e0, e1]
theorem side_cells {a b c : Int} (h : DataW.trod enc Tryz.prog w base spare held fuel 154 cs = some x) (hx : x.1 = .agg [.agg [.lit (.int .i64 a), .lit (.int .i64 b)], .lit (.int .i64 c)]) : cs = [.int .i64 a, .int .i64 b, .int .i64 c] := by
  obtain ⟨y0, y1, n, rfl, hl, h0, h1⟩ := trod_struct2 Tryz.underlying154 h
  rw [cellsSide] at hl
  dsimp only at h0 h1
  rw [cellsInt1] at h1
  rw [cellsPt] at h0
  obtain ⟨n1, e1, rfl, _⟩ := DataW.trod_int Tryz.underlying3 h1
  simp only [DataW.agg.injEq, List.cons.injEq, DataW.lit.injEq, Lit.int.injEq, true_and, and_true] at hx
  obtain ⟨hx0, rfl⟩ := hx
  have e0 := pt_cells h0 hx0
  match cs, hl with
  | [c0, c1, c2], _ =>
    simp at e0 e1
    rw [e0.1, e0.2, e1]
end

theorem of_laid {W : World} (h : laidMetH Tryz.prog laidP W) : LaidSides W := by
  rw [MakeChecks.laidMetH_plain _ _ _ (by kernel_rfl)] at h
  obtain ⟨ps, ⟨g0, t0, cs0, f0, p0, q0, hg0, ht0, hv0, hd0, _, _⟩, _, _⟩ := h
  obtain rfl := Option.some.inj (gSides.symm.trans hg0)
  obtain rfl := Option.some.inj (tSides.symm.trans ht0)
  obtain ⟨xs, m, rfl, hx, hlen, hn5, hel⟩ := DataW.trod_array underSides hd0
  simp only [Prod.mk.injEq, DataW.agg.injEq, Rows.laid_lacquer_groove_sides] at hx
  have hcell : ∀ j, W.cell? ⟨0, j, none⟩ = cs0.toList[j]? := fun j => by
    have := World.var?_cell hg0 hv0 j
    rw [this]; simp
  match xs, hn5, hx, hel with
  | [x0, x1, x2, x3, x4], _, hx, hel =>
    simp only [List.map_cons, List.map_nil, List.cons.injEq] at hx
    obtain ⟨⟨e0, e1, e2, e3, e4, _⟩, _⟩ := hx
    have row : ∀ (i : Nat) (a b c : Int) (x : DataW Unit × List MemPlace), i < 5 → [x0, x1, x2, x3, x4][i]? = some x → x.1 = .agg [.agg [.lit (.int .i64 a), .lit (.int .i64 b)], .lit (.int .i64 c)] →
        W.cell? ⟨0, 3 * i, none⟩ = some (.int .i64 a) ∧ W.cell? ⟨0, 3 * i + 1, none⟩ = some (.int .i64 b) ∧ W.cell? ⟨0, 3 * i + 2, none⟩ = some (.int .i64 c) := by
      intro i a b c x hi hxi hx1
      have hq := (hel i hi).trans hxi
      rw [cellsSide] at hq
      have t := side_cells hq hx1
      have t0 := congrArg (fun l : List Value => l[0]?) t
      have t1 := congrArg (fun l : List Value => l[1]?) t
      have t2 := congrArg (fun l : List Value => l[2]?) t
      simp only [List.getElem?_take, List.getElem?_drop] at t0 t1 t2
      rw [hcell, hcell, hcell, Nat.mul_comm 3 i]
      exact ⟨by simpa using t0, by simpa using t1, by simpa using t2⟩
    have r0 := row 0 0 1 1 x0 (by omega) rfl e0.symm
    have r1 := row 1 (-1) 0 2 x1 (by omega) rfl e1.symm
    have r2 := row 2 0 (-1) 2 x2 (by omega) rfl e2.symm
    have r3 := row 3 1 0 2 x3 (by omega) rfl e3.symm
    have r4 := row 4 0 1 1 x4 (by omega) rfl e4.symm
    refine ⟨block_lt_of_cell r0.1, fun j hj => ?_⟩
    match j, hj with
    | 0, _ => exact r0
    | 1, _ => exact r1
    | 2, _ => exact r2
    | 3, _ => exact r3
    | 4, _ => exact r4

theorem door_met (os : Os) (args : Array Value) : laidMetH Tryz.prog laidP ((World.doorLaid Tryz.prog 400 os).forCall (fun _ _ => 0) ⟨#[], args, []⟩).memory :=
  laidMetH_of_parts3 (fuel := 8) (laidMet_of_run' 8 (by kernel_rfl) (by kernel_rfl)) (by kernel_rfl) (by kernel_rfl)

end Go.Proofs.YtjjflbnopphciaaGreatDoor

namespace Go.Proofs.YtjjflbnopphciaaGreatDoor
open Go.ChangeShapes Go.WideShapes Go.ChangeAt Go.RowKit

/-- Numbers as they come in. -/
theorem open_rd {H : Type} {enc : TypeId × Value → H} {w : World} {base : Nat} {spare : Nat → Bool} {held : Bool} {A : Option Addr} {n c : Nat} {d : DataW H} {p : List MemPlace}
    (h : DataW.Trod enc Tryz.prog w base spare held 22 (.slice A n c) d p) : ∃ l, RdI w A n l ∧ n ≤ c ∧ c ≤ 9223372036854775807 ∧ (A = none → n = 0 ∧ c = 0) := by
  obtain ⟨fuel, hf⟩ := h
  rcases open_ints Tryz.underlying22 Tryz.underlying3 cellsInt1 hf with ⟨hcs, _⟩ | ⟨a, len, cap, zs, hcs, _, hl, hm, hz, _, hcell, _⟩
  · simp [Value.cells] at hcs
    obtain ⟨rfl, rfl, rfl⟩ := hcs
    exact ⟨[], ⟨rfl, fun h => absurd h (by omega)⟩, by omega, by omega, fun _ => ⟨rfl, rfl⟩⟩
  · simp [Value.cells] at hcs
    obtain ⟨rfl, rfl, rfl⟩ := hcs
    have hlen : n ≤ zs.length := by rw [hz]; split <;> omega
    refine ⟨zs.take n, ⟨by rw [List.length_take]; omega, fun hn => ⟨a, rfl, ?_, fun j hj => ?_⟩⟩, hl, by unfold maxLen at hm; omega, fun h => by cases h⟩
    · have := block_lt_of_cell (hcell 0 (by omega))
      rwa [addBlock] at this
    · rw [hcell j (by omega)]
      simp [List.getD_eq_getElem?_getD, List.getElem?_take, hj]

end Go.Proofs.YtjjflbnopphciaaGreatDoor

namespace Go.Proofs.YtjjflbnopphciaaGreatDoor
open Go.ChangeShapes Go.WideShapes Go.ChangeAt Go.RowKit

theorem laid_tail {P : Program} {W : World} {x : String × DataW Unit} {rest : List (String × DataW Unit)} (h : laidMet P (x :: rest) W) : laidMet P rest W := by
  obtain ⟨ps, ⟨g, t, cs, f, p, q, hg, ht, hv, hd, hr, rfl⟩, hn, hc⟩ := h
  exact ⟨q, hr, (List.nodup_append.1 hn).2.1, fun b off hm => hc b off (List.mem_append_right _ hm)⟩
theorem laid_head {P : Program} {W : World} {x : String × DataW Unit} {rest : List (String × DataW Unit)} (h : laidMet P (x :: rest) W) : laidMet P [x] W := by
  obtain ⟨ps, ⟨g, t, cs, f, p, q, hg, ht, hv, hd, hr, rfl⟩, hn, hc⟩ := h
  exact ⟨_, ⟨g, t, cs, f, p, [], hg, ht, hv, hd, rfl, (List.append_nil _).symm⟩, (List.nodup_append.1 hn).1, fun b off hm => hc b off (List.mem_append_left _ hm)⟩

/-- What the rows of this seat list. -/
def laidGS : List (String × DataW Unit) := [("math/bits.deBruijn32tab", Rows.laid_math_bits_deBruijn32tab), ("math/bits.deBruijn64tab", Rows.laid_math_bits_deBruijn64tab), ("internal/strconv.uint64pow10", Rows.laid_internal_strconv_uint64pow10), ("unicode/utf8.acceptRanges", Rows.laid_unicode_utf8_acceptRanges), ("strconv.ErrRange", Rows.laid_strconv_ErrRange), ("strconv.ErrSyntax", Rows.laid_strconv_ErrSyntax), ("lacquer/groove.sides", Rows.laid_lacquer_groove_sides), ("unicode/utf8.first", Rows.laid_unicode_utf8_first)]

theorem tPow : (Tryz.prog.globals[1]?).map (·.type) = some 180 := by kernel_rfl
theorem underPow : Tryz.prog.underlying 180 = some (.array 20 162) := by kernel_rfl
theorem underU64 : Tryz.prog.underlying 162 = some (.int .u64) := by kernel_rfl
theorem cellsU64 : Tryz.prog.cellsOf 162 = 1 := by kernel_rfl
theorem cellsPow : Tryz.prog.cellsOf 180 = 20 := by kernel_rfl
theorem gEs : Tryz.prog.globalNamed "strconv.ErrSyntax" = some 3 := by kernel_rfl
theorem gEr : Tryz.prog.globalNamed "strconv.ErrRange" = some 4 := by kernel_rfl
theorem tEs : (Tryz.prog.globals[3]?).map (·.type) = some 124 := by kernel_rfl
theorem tEr : (Tryz.prog.globals[4]?).map (·.type) = some 124 := by kernel_rfl
theorem starE : "*" ++ "errors.errorString" = "*errors.errorString" := by decide
theorem rowES (u : TypeId) (h : Tryz.prog.typeName? 3 u = some "*errors.errorString") : u = 198 :=
  typeName_ptr_named (nm := "errors.errorString") (by rw [starE]; kernel_rfl) (by kernel_rfl) (by decide) u (by rw [starE]; exact h)
theorem cellsES : Tryz.prog.cellsOf 200 = 1 := by kernel_rfl
theorem cellsStr : Tryz.prog.cellsOf 9 = 1 := by kernel_rfl

theorem of_laidGS {W : World} (h : laidMetH Tryz.prog laidGS W) (hm : ∃ m : Int, W.cell? ⟨2, 0, none⟩ = some (.int .i64 m)) : LaidG W := by
  rw [MakeChecks.laidMetH_plain _ _ _ (by kernel_rfl)] at h
  have h3 := laid_tail (laid_tail h)
  have h5 := laid_tail (laid_tail h3)
  have h6 := laid_tail h5
  have h7 := laid_tail h6
  have hp : laidMetH Tryz.prog laidP W := by
    rw [MakeChecks.laidMetH_plain _ _ _ (by kernel_rfl)]
    exact laid_head h7
  refine ⟨of_laid hp, hm, ?_, ?_, ?_⟩
  · exact Lib.tabIs_of_head gTabG tPow underPow underU64 cellsU64 cellsPow (show laidMet Tryz.prog (("internal/strconv.uint64pow10", Lib.tabData .u64 Lib.pow10Tab) :: _) W from h3)
  · obtain ⟨a1, s1, hv1, _, _, _⟩ := laid_sentinel (laid_head h6) gEs tEs Tryz.underlying124 rowES Tryz.underlying198 Tryz.underlying200 rfl rfl Tryz.underlying9 cellsES cellsStr
    exact ⟨_, _, by simpa using World.var?_cell gEs hv1 0⟩
  · obtain ⟨a1, s1, hv1, _, _, _⟩ := laid_sentinel (laid_head h5) gEr tEr Tryz.underlying124 rowES Tryz.underlying198 Tryz.underlying200 rfl rfl Tryz.underlying9 cellsES cellsStr
    exact ⟨_, _, by simpa using World.var?_cell gEr hv1 0⟩
end Go.Proofs.YtjjflbnopphciaaGreatDoor

