import Derived.Test.YtghpofhpkbgckaaE51

namespace Go.Proofs.Ytghpofhpkbgckaa
open Go.RowKit

theorem outE_of {xs : List Int} (hl : xs.length ≤ 400) (h : ∀ x ∈ xs, -1000000000000000 ≤ x ∧ x ≤ 1000000000000000) : outE xs = 0 := by
  rw [outE_eq, if_neg (by omega)]
  unfold rngE
  rw [if_pos]
  unfold fromB
  rw [List.all_eq_true]
  intro x hx
  have := h x hx
  simp; omega
theorem sigE_eq (xs : List Int) : sigE xs = if 400 < xs.length then 8 else rngE (-32767) 32767 xs := rfl
theorem sigE_of {xs : List Int} (hl : xs.length ≤ 400) (h : ∀ x ∈ xs, -32767 ≤ x ∧ x ≤ 32767) : sigE xs = 0 := by
  rw [sigE_eq, if_neg (by omega)]
  unfold rngE
  rw [if_pos]
  unfold fromB
  rw [List.all_eq_true]
  intro x hx
  have := h x hx
  simp; omega
/-- The ways of a law that asks first for a short list, a valid equalizer and a signal. -/
theorem tb_far (f s d : Int) (A : Option Addr) (n c : Nat) (at_ : Int) (w : World) (hn : n ≤ 9223372036854775807) (h : 64 < n) :
    Calls Try.prog 9 #[.agg #[.int .i64 f, .int .i64 s, .int .i64 d], .slice A n c, .int .i64 at_] w fun e w' => e = .returned (.bool true) ∧ Below w.heap.size w w' := by
  have B0 := Lib.hid (below1 w (.cells #[.int .i64 f, .int .i64 s, .int .i64 d] 68))
  have h64 : (64 : Int) < (n : Int) := by omega
  go_enter Try.func9, Try.ntmps9
  go_wp2_with fail
  refine (awake_any _).mono ?_
  rintro e w1 ⟨rfl, hb⟩
  have B1 := Lib.hid (B0.out.trans (hb.mono B0.out.size))
  clear hb B0
  go_wp2
  go_ret
  exact ⟨rfl, B1.out⟩
theorem tb_D (f s d : Int) (A : Option Addr) (n c : Nat) (at_ : Int) (w : World) (h : n ≤ 64) (hD : ¬ eqzE f s d = 0) :
    Calls Try.prog 9 #[.agg #[.int .i64 f, .int .i64 s, .int .i64 d], .slice A n c, .int .i64 at_] w fun e w' => e = .returned (.bool true) ∧ Below w.heap.size w w' := by
  have R0 := Lib.hid (OneB.start w 68 #[.int .i64 f, .int .i64 s, .int .i64 d])
  have h64 : ¬ (64 : Int) < (n : Int) := by omega
  have CQ := Lib.hid (fun w => refEqualizerErr_any f s d w)
  obtain ⟨D, hDe⟩ : ∃ D, eqzE f s d = D := ⟨_, rfl⟩
  rw [hDe] at hD CQ
  have dD1 := neT hD
  clear hDe hD
  go_enter Try.func9, Try.ntmps9
  go_wp2_with fail
  refine (awake_any _).mono ?_
  rintro e w1 ⟨rfl, hb⟩
  have R1 := Lib.hid (OneB.later hb R0.out)
  clear hb R0
  obtain ⟨c0, c1, c2⟩ := R1.out.three
  go_wp2_with fail
  refine (CQ.out _).mono ?_
  rintro e w2 ⟨rfl, hb⟩
  have R2 := Lib.hid (OneB.later hb R1.out)
  clear hb R1
  go_wp2
  go_ret
  exact ⟨by simp, R2.out.b⟩
theorem tb_S (f s d : Int) (A : Option Addr) (n c : Nat) (xs : List Int) (at_ : Int) (w : World) (h : n ≤ 64) (hD : eqzE f s d = 0) (hr : RdI w A n xs) (hS : ¬ sigE xs = 0) :
    Calls Try.prog 9 #[.agg #[.int .i64 f, .int .i64 s, .int .i64 d], .slice A n c, .int .i64 at_] w fun e w' => e = .returned (.bool true) ∧ Below w.heap.size w w' := by
  have R0 := Lib.hid (OneB.start w 68 #[.int .i64 f, .int .i64 s, .int .i64 d])
  have h64 : ¬ (64 : Int) < (n : Int) := by omega
  have CQ := Lib.hid (fun w => refEqualizerErr_any f s d w)
  rw [hD] at CQ
  have CS : Hid (∀ W, Below w.heap.size w W → Calls Try.prog 19 #[.slice A n c] W fun e w' => e = .returned (.int .i64 (sigE xs)) ∧ W = w') := fun W hb => refSignalErr_any A n c xs W (hr.below hb) (by omega)
  obtain ⟨D, hDe⟩ : ∃ D, sigE xs = D := ⟨_, rfl⟩
  rw [hDe] at hS CS
  have dD1 := neT hS
  clear hDe hS hD hr
  go_enter Try.func9, Try.ntmps9
  go_wp2_with fail
  refine (awake_any _).mono ?_
  rintro e w1 ⟨rfl, hb⟩
  have R1 := Lib.hid (OneB.later hb R0.out)
  clear hb R0
  obtain ⟨c0, c1, c2⟩ := R1.out.three
  go_wp2_with fail
  refine (CQ.out _).mono ?_
  rintro e w2 ⟨rfl, hb⟩
  have R2 := Lib.hid (OneB.later hb R1.out)
  clear hb R1
  go_wp2_with fail
  refine (CS.out _ R2.out.b).mono ?_
  rintro e w' ⟨rfl, rfl⟩
  go_wp2
  go_ret
  exact ⟨by simp, R2.out.b⟩
theorem takenback_walk (f s d : Int) (A : Option Addr) (n c : Nat) (xs : List Int) (at_ : Int) (w : World) (hr : RdI w A n xs) (hn0 : n ≤ 9223372036854775807) (hA : A = none → n = 0 ∧ c = 0) (hnc : n ≤ c) :
    Calls Try.prog 9 #[.agg #[.int .i64 f, .int .i64 s, .int .i64 d], .slice A n c, .int .i64 at_] w fun e w' => e = .returned (.bool true) ∧ Below w.heap.size w w' := by
  by_cases hn : n ≤ 64
  rotate_left
  · exact tb_far f s d A n c at_ w hn0 (by omega)
  by_cases hD : eqzE f s d = 0
  rotate_left
  · exact tb_D f s d A n c at_ w hn hD
  by_cases hS : sigE xs = 0
  rotate_left
  · exact tb_S f s d A n c xs at_ w hn hD hr hS
  have hxs := (sigE_zero hS).2
  have hxl := hr.1
  have hO : outE xs = 0 := outE_of (by omega) (fun x hx => by have := hxs x hx; omega)
  have hzl : (rsR f s d 0 0 xs).length = n := (rsR_len f s d xs 0 0).trans hxl
  have CQ := fun W => refEqualizerErr_any f s d W
  have CS := fun W (h : RdI W A n xs) => refSignalErr_any A n c xs W h (by omega)
  rw [hD] at CQ
  rw [hS] at CS
  have CRx := fun B cb W h => rs_toN (n := n) (rsl_ok hD hO) hzl (by omega) B cb W h
  have CSz := fun B cb W (h : RdI W B n (rsR f s d 0 0 xs)) => refSignalErr_any B n cb (rsR f s d 0 0 xs) W h (by omega)
  have hback := eqR_rsR f s d xs 0 0 (fun x hx => absF_le.2 (by have := hxs x hx; omega))
  have CEz := fun (hZ : sigE (rsR f s d 0 0 xs) = 0) => eql_ok (xs := rsR f s d 0 0 xs) hD hZ
  have hY : eqY f s d (rsR f s d 0 0 xs) = xs := by unfold eqY; rw [hback]; rfl
  rw [hback, hY] at CEz
  obtain ⟨k, hk⟩ := Int.eq_ofNat_of_zero_le (Int.emod_nonneg at_ (show (n : Int) + 1 ≠ 0 by omega))
  have hkn : k ≤ n := by have := Int.emod_lt_of_pos at_ (show 0 < (n : Int) + 1 by omega); omega
  rcases eqR_01 f s d xs 0 0 with h0 | h0
  · have hy : eqY f s d xs = (eqR f s d 0 0 xs).1 := by unfold eqY; rw [if_pos h0]
    have hl : (eqR f s d 0 0 xs).1.length = n := (eqR_len f s d xs 0 0 h0).trans hr.1
    have h1 := eql_ok (xs := xs) hD hS
    rw [h0, hy] at h1
    have hOy : outE (eqR f s d 0 0 xs).1 = 0 := outE_of (by omega) (fun y hy => absF_le.1 (eqR_small f s d xs 0 0 y hy))
    have h2 := rsl_ok (f := f) (s := s) (d := d) (xs := (eqR f s d 0 0 xs).1) hD hOy
    rw [rsR_eqR f s d xs 0 0 h0] at h2
    have hSk : sigE (xs.take k) = 0 := sigE_of (by rw [List.length_take]; omega) (fun x hx => hxs x (List.mem_of_mem_take hx))
    have h3 := eql_ok (f := f) (s := s) (d := d) (xs := xs.take k) hD hSk
    have h4 : eqY f s d (xs.take k) = (eqR f s d 0 0 xs).1.take k := by unfold eqY; rw [eqR_take f s d xs k 0 0 h0]; rfl
    rw [h4, eqR_take f s d xs k 0 0 h0] at h3
    have hlk : ((eqR f s d 0 0 xs).1.take k).length = k := by rw [List.length_take]; omega
    by_cases hZ : sigE (rsR f s d 0 0 xs) = 0
    · rw [hZ] at CSz
      exact tbw_11 f s d A n c xs at_ w _ hzl _ hl k hkn hk hr hn hnc hA CQ CS CRx CSz (fun B cb W h => eq_toN (n := n) (CEz hZ) hxl (by omega) B cb W h) (fun B cb W h => eq_toN (n := n) h1 hl (by omega) B cb W h) (fun B cb W h => rs_toN (n := n) h2 hxl (by omega) B cb W h) (fun B cb W h => eq_toN (n := k) h3 hlk (by omega) B cb W h)
    · exact tbw_01 f s d A n c xs at_ w _ hzl _ hZ _ hl k hkn hk hr hn hnc hA CQ CS CRx CSz (fun B cb W h => eq_toN (n := n) h1 hl (by omega) B cb W h) (fun B cb W h => rs_toN (n := n) h2 hxl (by omega) B cb W h) (fun B cb W h => eq_toN (n := k) h3 hlk (by omega) B cb W h)
  · have hy : eqY f s d xs = [] := by unfold eqY; rw [if_neg (by rw [h0]; decide)]
    have h1 := eql_ok (xs := xs) hD hS
    rw [h0, hy] at h1
    by_cases hZ : sigE (rsR f s d 0 0 xs) = 0
    · rw [hZ] at CSz
      exact tbw_10 f s d A n c xs at_ w _ hzl hr hn hnc hA CQ CS CRx CSz (fun B cb W h => eq_toN (n := n) (CEz hZ) hxl (by omega) B cb W h) (fun B cb W h => eq_toN (n := n) h1 rfl (by omega) B cb W h)
    · exact tbw_00 f s d A n c xs at_ w _ hzl _ hZ hr hn hnc hA CQ CS CRx CSz (fun B cb W h => eq_toN (n := n) h1 rfl (by omega) B cb W h)

end Go.Proofs.Ytghpofhpkbgckaa
