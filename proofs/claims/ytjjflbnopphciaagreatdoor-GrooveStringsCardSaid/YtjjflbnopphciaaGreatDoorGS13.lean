import Derived.Test.YtjjflbnopphciaaGreatDoorGS12
import Derived.Test.YtjjflbnopphciaaGreatDoorV1
import Derived.Test.YtjjflbnopphciaaGreatDoorA0
namespace Go.Proofs.YtjjflbnopphciaaGreatDoor
open Go.RowKit

theorem below_drewN (w : World) (k : Nat) : Below w.heap.size w (w.drewN k) := ⟨rfl, rfl, rfl, Nat.le_refl _, fun i hi => rfl⟩
theorem pos_okG {xs : List Int} (h : posE xs = 0) : xs.length ≤ 200 ∧ ∀ x ∈ xs, -1000000 ≤ x ∧ x ≤ 1000000 := by
  unfold posE at h
  by_cases h1 : 200 < xs.length
  · rw [if_pos h1] at h; omega
  · rw [if_neg h1] at h
    by_cases h2 : fromB (-1000000) 1000000 xs = true
    · refine ⟨by omega, fun x hx => ?_⟩
      unfold fromB at h2
      rw [List.all_eq_true] at h2
      simpa using h2 x hx
    · rw [if_neg h2] at h; omega

set_option maxRecDepth 100000 in
set_option maxHeartbeats 4000000 in
theorem gs_long (A : Option Addr) (n c : Nat) (s : ByteArray) (w : World) (hl : LaidG w) (hn : ¬ n ≤ 203) :
    Calls Tryz.prog 3 #[.slice A n c, .string s] w fun e w' => e = .returned (.bool true) ∧ Below w.heap.size w w' := by
  have CAW := Lib.hid (awake_any w hl.sd)
  have CLONG : Hid (∀ (W : World) (c : Nat), Calls Tryz.prog 6 #[.slice A n c] W fun e w' => e = .returned (.bool false) ∧ W = w') := fun W c => by have h := long_any A n c W; rw [decide_eq_false hn] at h; exact h

  clear hl
  go_enter Tryz.func3, Tryz.ntmps3
  go_wp2_with fail
  refine CAW.out.mono ?_
  rintro e w1 ⟨rfl, hb1⟩
  have B1 := Lib.hid hb1
  clear hb1 CAW
  go_wp2_with fail
  refine (CLONG.out _ _).mono ?_
  rintro e w1' ⟨rfl, hw⟩
  obtain rfl := hw
  go_wp2
  go_ret
  exact ⟨rfl, B1.out⟩

set_option maxRecDepth 100000 in
set_option maxHeartbeats 4000000 in
theorem gs_mid (A : Option Addr) (n c : Nat) (s : ByteArray) (w : World) (hl : LaidG w) (hn : n ≤ 203) (h1 : 200 < s.size) (h2 : s.size ≤ 60000) :
    Calls Tryz.prog 3 #[.slice A n c, .string s] w fun e w' => e = .returned (.bool true) ∧ Below w.heap.size w w' := by
  have CAW := Lib.hid (awake_any w hl.sd)
  have CLONG : Hid (∀ (W : World) (c : Nat), Calls Tryz.prog 6 #[.slice A n c] W fun e w' => e = .returned (.bool true) ∧ W = w') := fun W c => by have h := long_any A n c W; rw [decide_eq_true hn] at h; exact h
  have g1 : (200 : Int) < (s.size : Int) := by omega
  have g2 : (s.size : Int) ≤ 60000 := by omega
  clear h1 h2
  clear hl
  go_enter Tryz.func3, Tryz.ntmps3
  go_wp2_with fail
  refine CAW.out.mono ?_
  rintro e w1 ⟨rfl, hb1⟩
  have B1 := Lib.hid hb1
  clear hb1 CAW
  go_wp2_with fail
  refine (CLONG.out _ _).mono ?_
  rintro e w1' ⟨rfl, hw⟩
  obtain rfl := hw
  go_wp2
  go_ret
  exact ⟨rfl, B1.out⟩

set_option maxRecDepth 100000 in
set_option maxHeartbeats 4000000 in
theorem gs_big (A : Option Addr) (n c : Nat) (s : ByteArray) (w : World) (hl : LaidG w) (hn : n ≤ 203) (h1 : 60010 < s.size) :
    Calls Tryz.prog 3 #[.slice A n c, .string s] w fun e w' => e = .returned (.bool true) ∧ Below w.heap.size w w' := by
  have CAW := Lib.hid (awake_any w hl.sd)
  have CLONG : Hid (∀ (W : World) (c : Nat), Calls Tryz.prog 6 #[.slice A n c] W fun e w' => e = .returned (.bool true) ∧ W = w') := fun W c => by have h := long_any A n c W; rw [decide_eq_true hn] at h; exact h
  have g1 : (200 : Int) < (s.size : Int) := by omega
  have g2 : ¬ (s.size : Int) ≤ 60000 := by omega
  have g3 : (60010 : Int) < (s.size : Int) := by omega
  clear h1
  clear hl
  go_enter Tryz.func3, Tryz.ntmps3
  go_wp2_with fail
  refine CAW.out.mono ?_
  rintro e w1 ⟨rfl, hb1⟩
  have B1 := Lib.hid hb1
  clear hb1 CAW
  go_wp2_with fail
  refine (CLONG.out _ _).mono ?_
  rintro e w1' ⟨rfl, hw⟩
  obtain rfl := hw
  go_wp2
  go_ret
  exact ⟨rfl, B1.out⟩

set_option maxRecDepth 100000 in
set_option maxHeartbeats 8000000 in
theorem gs_A (A : Option Addr) (n c : Nat) (xs : List Int) (s : ByteArray) (w : World) (hl : LaidG w) (hA : A = none → n = 0 ∧ c = 0) (hr : RdI w A n xs) (hx : I64 xs) (hn : n ≤ 203) (hs : s.size ≤ 200) :
    Calls Tryz.prog 3 #[.slice A n c, .string s] w fun e w' => e = .returned (.bool true) ∧ Below w.heap.size w w' := by
  have HL := Lib.hid hl
  have HA := Lib.hid hA
  have HR := Lib.hid hr
  have HX := Lib.hid hx
  have HLN : Hid (xs.length = n) := hr.1
  have CLONG : Hid (∀ (W : World) (c : Nat), Calls Tryz.prog 6 #[.slice A n c] W fun e w' => e = .returned (.bool true) ∧ W = w') := fun W c => by have h := long_any A n c W; rw [decide_eq_true hn] at h; exact h
  have CAW := Lib.hid (awake_any w hl.sd)
  have g1 : ¬ (200 : Int) < (s.size : Int) := by omega
  have g3 : ¬ (60010 : Int) < (s.size : Int) := by omega

  obtain ⟨T, hT⟩ : ∃ T, (⟨(joinP xs).toArray⟩ : ByteArray) = T := ⟨_, rfl⟩
  have hTz : T.size ≤ 4263 := by
    rw [← hT, bytes_size]
    have := joinP_len xs hx
    rw [HLN.out] at this
    omega
  have HN : Hid (n ≤ 1000 ∧ n ≤ 1000000 ∧ n ≤ 9223372036854775806) := by show _ ∧ _ ∧ _; omega
  have CF : Hid (∀ W A c, LaidG W → RdI W A n xs → Calls Tryz.prog 7 #[.slice A n c] W fun e w' => e = .returned (.string T) ∧ Below W.heap.size W w') := fun W A c h1 h2 => by rw [← hT]; exact formatPath_any A n c xs W h1 h2 HN.out.1 HX.out
  have CG : Hid (∀ W A c, RdI W A n xs → Calls Tryz.prog 11 #[.slice A n c] W fun e w' => e = .returned (.string T) ∧ Below W.heap.size W w') := fun W A c h2 => by rw [← hT]; exact join_any A n c xs W h2 HN.out.1 HX.out HLN.out
  obtain ⟨PL, hPL⟩ : ∃ L, ppL s = L := ⟨_, rfl⟩
  obtain ⟨PE, hPE⟩ : ∃ E, ppE s = E := ⟨_, rfl⟩
  have HPL : Hid (PL.length ≤ 9223372036854775806) := by show _ ≤ _; rw [← hPL]; have := ppL_len s; omega
  have CP : Hid (∀ W, LaidG W → Calls Tryz.prog 9 #[.string s] W (OwnRes W PE PL)) := fun W h => by rw [← hPE, ← hPL]; exact parsePath_any s W h (by omega)
  have CQ : Hid (∀ W, Calls Tryz.prog 10 #[.string s] W (OwnRes W PE PL)) := fun W => by rw [← hPE, ← hPL]; exact refParse_any s W (by omega)
  obtain ⟨D, hD⟩ : ∃ E, posE xs = E := ⟨_, rfl⟩
  have CE : Hid (∀ W A c, RdI W A n xs → Calls Tryz.prog 13 #[.slice A n c] W fun e w' => e = .returned (.int .i64 D) ∧ W = w') := fun W A c h => by rw [← hD]; exact refPosErr_any A n c xs W h HN.out.2.2
  have CB : Hid (D = 0 → ∀ W, LaidG W → Calls Tryz.prog 9 #[.string T] W (OwnRes W 0 xs)) := fun h0 W h => by
    have h1 := pos_okG (hD.trans h0)
    have h2 := parsePath_any T W h (by omega)
    have h3 := pathS_join xs (hD.trans h0) h1.2 h1.1
    unfold ppE ppL at h2
    rw [← hT, h3] at h2
    rw [← hT]
    exact h2
  have hTT : (T.toList == T.toList) = true := by simp
  have hEE : (PE != PE) = false := by simp
  have HXL : Hid (xs.length ≤ 9223372036854775806) := by show _ ≤ _; rw [HLN.out]; exact HN.out.2.2
  clear hl hA hr hx hT hPL hPE hD hn hTz
  go_enter Tryz.func3, Tryz.ntmps3
  go_wp2_with fail
  refine CAW.out.mono ?_
  rintro e w1 ⟨rfl, hb1⟩
  have B1 := Lib.hid hb1
  have L1 := Lib.hid (HL.out.later hb1)
  have R1 := Lib.hid (HR.out.below hb1)
  clear hb1 CAW
  go_wp2_with fail
  refine (CLONG.out _ _).mono ?_
  rintro e w1' ⟨rfl, hw⟩
  obtain rfl := hw
  go_wp2_with fail
  refine (copyInts_any A n c xs w1 HA.out R1.out HN.out.2.1).mono ?_
  rintro e w2 ⟨⟨v2, rfl, ho2⟩, hb2⟩
  have B2 := Lib.hid (B1.out.trans (hb2.mono B1.out.size))
  have L2 := Lib.hid (L1.out.later hb2)
  have R2 := Lib.hid (R1.out.below hb2)
  obtain ⟨A2, c2, rfl, _, hrd2, _⟩ := rd_ownN (n := xs.length) ho2
  rw [HLN.out] at hrd2
  rw [HLN.out]
  have S2 := Lib.hid hrd2
  clear hb2 ho2 hrd2 B1 L1 R1 CLONG
  go_wp2_with fail
  refine (CF.out _ _ _ L2.out S2.out).mono ?_
  rintro e w3 ⟨rfl, hb3⟩
  have B3 := Lib.hid (B2.out.trans (hb3.mono B2.out.size))
  have L3 := Lib.hid (L2.out.later hb3)
  have R3 := Lib.hid (R2.out.below hb3)
  clear hb3 B2 L2 R2 S2
  go_wp2_with fail
  refine (CP.out _ L3.out).mono ?_
  rintro e w4 ⟨⟨v4, rfl, ho4⟩, hb4⟩
  have B4 := Lib.hid (B3.out.trans (hb4.mono B3.out.size))
  have L4 := Lib.hid (L3.out.later hb4)
  have R4 := Lib.hid (R3.out.below hb4)
  obtain ⟨A4, c4, rfl, _, hrd4, _⟩ := rd_ownN (n := PL.length) ho4
  have S4 := Lib.hid hrd4
  clear hb4 ho4 hrd4 B3 L3 R3
  go_wp2_with fail
  refine (CQ.out _).mono ?_
  rintro e w5 ⟨⟨v5, rfl, ho5⟩, hb5⟩
  have B5 := Lib.hid (B4.out.trans (hb5.mono B4.out.size))
  have L5 := Lib.hid (L4.out.later hb5)
  have R5 := Lib.hid (R4.out.below hb5)
  have S5 := Lib.hid (S4.out.below hb5)
  obtain ⟨A5, c5, rfl, _, hrd5, _⟩ := rd_ownN (n := PL.length) ho5
  have T5 := Lib.hid hrd5
  clear hb5 ho5 hrd5 B4 L4 R4 S4
  go_wp2_with fail
  refine (CG.out _ _ _ R5.out).mono ?_
  rintro e w6 ⟨rfl, hb6⟩
  have B6 := Lib.hid (B5.out.trans (hb6.mono B5.out.size))
  have L6 := Lib.hid (L5.out.later hb6)
  have R6 := Lib.hid (R5.out.below hb6)
  have S6 := Lib.hid (S5.out.below hb6)
  have T6 := Lib.hid (T5.out.below hb6)
  clear hb6 B5 L5 R5 S5 T5
  go_wp2_with fail
  refine (ints_any _ _ _ _ _ _ PL PL w6 S6.out T6.out HPL.out HPL.out).mono ?_
  rintro e w7 ⟨rfl, k7, hw7⟩
  rw [decide_eq_true (show PL = PL from rfl)]
  have B7 : Hid (Below w.heap.size w w7) := by show Below _ _ _; rw [hw7]; exact B6.out.trans ((below_drewN w6 k7).mono B6.out.size)
  have L7 : Hid (LaidG w7) := by show LaidG _; rw [hw7]; exact L6.out.later (below_drewN w6 k7)
  have R7 : Hid (RdI w7 A n xs) := by show RdI _ _ _ _; rw [hw7]; exact R6.out.drewN k7
  clear hw7 B6 L6 R6 S6 T6
  go_wp2_with fail
  refine (CE.out _ _ _ R7.out).mono ?_
  rintro e w8 ⟨rfl, hw8⟩
  obtain rfl := hw8
  by_cases hD0 : D = 0
  · have CB0 := Lib.hid (CB.out hD0)
    subst hD0
    clear CB
    go_wp2_with fail
    refine (CB0.out _ L7.out).mono ?_
    rintro e w9 ⟨⟨v9, rfl, ho9⟩, hb9⟩
    have B9 := Lib.hid (B7.out.trans (hb9.mono B7.out.size))
    have R9 := Lib.hid (R7.out.below hb9)
    obtain ⟨A9, c9, rfl, _, hrd9, _⟩ := rd_ownN (n := xs.length) ho9
    have S9 := Lib.hid hrd9
    clear hb9 ho9 hrd9 B7 L7 R7
    go_wp2_with fail
    refine (ints_any _ _ _ _ _ _ xs xs w9 S9.out R9.out HXL.out HN.out.2.2).mono ?_
    rintro e w10 ⟨rfl, k10, hw10⟩
    rw [decide_eq_true (show xs = xs from rfl)]
    have B10 : Hid (Below w.heap.size w w10) := by show Below _ _ _; rw [hw10]; exact B9.out.trans ((below_drewN w9 k10).mono B9.out.size)
    clear hw10 B9 R9 S9
    go_wp2
    go_ret
    exact ⟨rfl, B10.out⟩
  · have hDn : (D != 0) = true := by simpa using hD0
    clear CB hD0
    go_wp2
    go_ret
    exact ⟨rfl, B7.out⟩

set_option maxRecDepth 100000 in
set_option maxHeartbeats 8000000 in
theorem gs_B (A : Option Addr) (n c : Nat) (xs : List Int) (s : ByteArray) (w : World) (hl : LaidG w) (hA : A = none → n = 0 ∧ c = 0) (hr : RdI w A n xs) (hx : I64 xs) (hn : n ≤ 203) (hs : s.size ≤ 60010) (hs2 : 60000 < s.size) :
    Calls Tryz.prog 3 #[.slice A n c, .string s] w fun e w' => e = .returned (.bool true) ∧ Below w.heap.size w w' := by
  have HL := Lib.hid hl
  have HA := Lib.hid hA
  have HR := Lib.hid hr
  have HX := Lib.hid hx
  have HLN : Hid (xs.length = n) := hr.1
  have CLONG : Hid (∀ (W : World) (c : Nat), Calls Tryz.prog 6 #[.slice A n c] W fun e w' => e = .returned (.bool true) ∧ W = w') := fun W c => by have h := long_any A n c W; rw [decide_eq_true hn] at h; exact h
  have CAW := Lib.hid (awake_any w hl.sd)
  have g1 : (200 : Int) < (s.size : Int) := by omega
  have g2 : ¬ (s.size : Int) ≤ 60000 := by omega
  have g3 : ¬ (60010 : Int) < (s.size : Int) := by omega

  obtain ⟨T, hT⟩ : ∃ T, (⟨(joinP xs).toArray⟩ : ByteArray) = T := ⟨_, rfl⟩
  have hTz : T.size ≤ 4263 := by
    rw [← hT, bytes_size]
    have := joinP_len xs hx
    rw [HLN.out] at this
    omega
  have HN : Hid (n ≤ 1000 ∧ n ≤ 1000000 ∧ n ≤ 9223372036854775806) := by show _ ∧ _ ∧ _; omega
  have CF : Hid (∀ W A c, LaidG W → RdI W A n xs → Calls Tryz.prog 7 #[.slice A n c] W fun e w' => e = .returned (.string T) ∧ Below W.heap.size W w') := fun W A c h1 h2 => by rw [← hT]; exact formatPath_any A n c xs W h1 h2 HN.out.1 HX.out
  have CG : Hid (∀ W A c, RdI W A n xs → Calls Tryz.prog 11 #[.slice A n c] W fun e w' => e = .returned (.string T) ∧ Below W.heap.size W w') := fun W A c h2 => by rw [← hT]; exact join_any A n c xs W h2 HN.out.1 HX.out HLN.out
  obtain ⟨PL, hPL⟩ : ∃ L, ppL s = L := ⟨_, rfl⟩
  obtain ⟨PE, hPE⟩ : ∃ E, ppE s = E := ⟨_, rfl⟩
  have HPL : Hid (PL.length ≤ 9223372036854775806) := by show _ ≤ _; rw [← hPL]; have := ppL_len s; omega
  have CP : Hid (∀ W, LaidG W → Calls Tryz.prog 9 #[.string s] W (OwnRes W PE PL)) := fun W h => by rw [← hPE, ← hPL]; exact parsePath_any s W h (by omega)
  have CQ : Hid (∀ W, Calls Tryz.prog 10 #[.string s] W (OwnRes W PE PL)) := fun W => by rw [← hPE, ← hPL]; exact refParse_any s W (by omega)
  obtain ⟨D, hD⟩ : ∃ E, posE xs = E := ⟨_, rfl⟩
  have CE : Hid (∀ W A c, RdI W A n xs → Calls Tryz.prog 13 #[.slice A n c] W fun e w' => e = .returned (.int .i64 D) ∧ W = w') := fun W A c h => by rw [← hD]; exact refPosErr_any A n c xs W h HN.out.2.2
  have CB : Hid (D = 0 → ∀ W, LaidG W → Calls Tryz.prog 9 #[.string T] W (OwnRes W 0 xs)) := fun h0 W h => by
    have h1 := pos_okG (hD.trans h0)
    have h2 := parsePath_any T W h (by omega)
    have h3 := pathS_join xs (hD.trans h0) h1.2 h1.1
    unfold ppE ppL at h2
    rw [← hT, h3] at h2
    rw [← hT]
    exact h2
  have hTT : (T.toList == T.toList) = true := by simp
  have hEE : (PE != PE) = false := by simp
  have HXL : Hid (xs.length ≤ 9223372036854775806) := by show _ ≤ _; rw [HLN.out]; exact HN.out.2.2
  clear hl hA hr hx hT hPL hPE hD hn hTz
  go_enter Tryz.func3, Tryz.ntmps3
  go_wp2_with fail
  refine CAW.out.mono ?_
  rintro e w1 ⟨rfl, hb1⟩
  have B1 := Lib.hid hb1
  have L1 := Lib.hid (HL.out.later hb1)
  have R1 := Lib.hid (HR.out.below hb1)
  clear hb1 CAW
  go_wp2_with fail
  refine (CLONG.out _ _).mono ?_
  rintro e w1' ⟨rfl, hw⟩
  obtain rfl := hw
  go_wp2_with fail
  refine (copyInts_any A n c xs w1 HA.out R1.out HN.out.2.1).mono ?_
  rintro e w2 ⟨⟨v2, rfl, ho2⟩, hb2⟩
  have B2 := Lib.hid (B1.out.trans (hb2.mono B1.out.size))
  have L2 := Lib.hid (L1.out.later hb2)
  have R2 := Lib.hid (R1.out.below hb2)
  obtain ⟨A2, c2, rfl, _, hrd2, _⟩ := rd_ownN (n := xs.length) ho2
  rw [HLN.out] at hrd2
  rw [HLN.out]
  have S2 := Lib.hid hrd2
  clear hb2 ho2 hrd2 B1 L1 R1 CLONG
  go_wp2_with fail
  refine (CF.out _ _ _ L2.out S2.out).mono ?_
  rintro e w3 ⟨rfl, hb3⟩
  have B3 := Lib.hid (B2.out.trans (hb3.mono B2.out.size))
  have L3 := Lib.hid (L2.out.later hb3)
  have R3 := Lib.hid (R2.out.below hb3)
  clear hb3 B2 L2 R2 S2
  go_wp2_with fail
  refine (CP.out _ L3.out).mono ?_
  rintro e w4 ⟨⟨v4, rfl, ho4⟩, hb4⟩
  have B4 := Lib.hid (B3.out.trans (hb4.mono B3.out.size))
  have L4 := Lib.hid (L3.out.later hb4)
  have R4 := Lib.hid (R3.out.below hb4)
  obtain ⟨A4, c4, rfl, _, hrd4, _⟩ := rd_ownN (n := PL.length) ho4
  have S4 := Lib.hid hrd4
  clear hb4 ho4 hrd4 B3 L3 R3
  go_wp2_with fail
  refine (CQ.out _).mono ?_
  rintro e w5 ⟨⟨v5, rfl, ho5⟩, hb5⟩
  have B5 := Lib.hid (B4.out.trans (hb5.mono B4.out.size))
  have L5 := Lib.hid (L4.out.later hb5)
  have R5 := Lib.hid (R4.out.below hb5)
  have S5 := Lib.hid (S4.out.below hb5)
  obtain ⟨A5, c5, rfl, _, hrd5, _⟩ := rd_ownN (n := PL.length) ho5
  have T5 := Lib.hid hrd5
  clear hb5 ho5 hrd5 B4 L4 R4 S4
  go_wp2_with fail
  refine (CG.out _ _ _ R5.out).mono ?_
  rintro e w6 ⟨rfl, hb6⟩
  have B6 := Lib.hid (B5.out.trans (hb6.mono B5.out.size))
  have L6 := Lib.hid (L5.out.later hb6)
  have R6 := Lib.hid (R5.out.below hb6)
  have S6 := Lib.hid (S5.out.below hb6)
  have T6 := Lib.hid (T5.out.below hb6)
  clear hb6 B5 L5 R5 S5 T5
  go_wp2_with fail
  refine (ints_any _ _ _ _ _ _ PL PL w6 S6.out T6.out HPL.out HPL.out).mono ?_
  rintro e w7 ⟨rfl, k7, hw7⟩
  rw [decide_eq_true (show PL = PL from rfl)]
  have B7 : Hid (Below w.heap.size w w7) := by show Below _ _ _; rw [hw7]; exact B6.out.trans ((below_drewN w6 k7).mono B6.out.size)
  have L7 : Hid (LaidG w7) := by show LaidG _; rw [hw7]; exact L6.out.later (below_drewN w6 k7)
  have R7 : Hid (RdI w7 A n xs) := by show RdI _ _ _ _; rw [hw7]; exact R6.out.drewN k7
  clear hw7 B6 L6 R6 S6 T6
  go_wp2_with fail
  refine (CE.out _ _ _ R7.out).mono ?_
  rintro e w8 ⟨rfl, hw8⟩
  obtain rfl := hw8
  by_cases hD0 : D = 0
  · have CB0 := Lib.hid (CB.out hD0)
    subst hD0
    clear CB
    go_wp2_with fail
    refine (CB0.out _ L7.out).mono ?_
    rintro e w9 ⟨⟨v9, rfl, ho9⟩, hb9⟩
    have B9 := Lib.hid (B7.out.trans (hb9.mono B7.out.size))
    have R9 := Lib.hid (R7.out.below hb9)
    obtain ⟨A9, c9, rfl, _, hrd9, _⟩ := rd_ownN (n := xs.length) ho9
    have S9 := Lib.hid hrd9
    clear hb9 ho9 hrd9 B7 L7 R7
    go_wp2_with fail
    refine (ints_any _ _ _ _ _ _ xs xs w9 S9.out R9.out HXL.out HN.out.2.2).mono ?_
    rintro e w10 ⟨rfl, k10, hw10⟩
    rw [decide_eq_true (show xs = xs from rfl)]
    have B10 : Hid (Below w.heap.size w w10) := by show Below _ _ _; rw [hw10]; exact B9.out.trans ((below_drewN w9 k10).mono B9.out.size)
    clear hw10 B9 R9 S9
    go_wp2
    go_ret
    exact ⟨rfl, B10.out⟩
  · have hDn : (D != 0) = true := by simpa using hD0
    clear CB hD0
    go_wp2
    go_ret
    exact ⟨rfl, B7.out⟩

theorem gs_any (A : Option Addr) (n c : Nat) (xs : List Int) (s : ByteArray) (w : World) (hl : LaidG w) (hA : A = none → n = 0 ∧ c = 0) (hr : RdI w A n xs) (hx : I64 xs) :
    Calls Tryz.prog 3 #[.slice A n c, .string s] w fun e w' => e = .returned (.bool true) ∧ Below w.heap.size w w' := by
  by_cases hn : n ≤ 203
  · by_cases h1 : s.size ≤ 200
    · exact gs_A A n c xs s w hl hA hr hx hn h1
    · by_cases h2 : s.size ≤ 60000
      · exact gs_mid A n c s w hl hn (by omega) h2
      · by_cases h3 : s.size ≤ 60010
        · exact gs_B A n c xs s w hl hA hr hx hn h3 (by omega)
        · exact gs_big A n c s w hl hn (by omega)
  · exact gs_long A n c s w hl hn
end Go.Proofs.YtjjflbnopphciaaGreatDoor
