import Derived.Test.YtghpofhpkbgckaaE53

namespace Go.Proofs.Ytghpofhpkbgckaa
open Go.RowKit

/-- The ways of a law that asks first for a short list, a valid equalizer and a signal. -/
theorem bd_far (f s d : Int) (A : Option Addr) (n c : Nat) (w : World) (hn : n ≤ 9223372036854775807) (h : 64 < n) :
    Calls Try.prog 10 #[.agg #[.int .i64 f, .int .i64 s, .int .i64 d], .slice A n c] w fun e w' => e = .returned (.bool true) ∧ Below w.heap.size w w' := by
  have B0 := Lib.hid (below1 w (.cells #[.int .i64 f, .int .i64 s, .int .i64 d] 68))
  have h64 : (64 : Int) < (n : Int) := by omega
  go_enter Try.func10, Try.ntmps10
  go_wp2_with fail
  refine (awake_any _).mono ?_
  rintro e w1 ⟨rfl, hb⟩
  have B1 := Lib.hid (B0.out.trans (hb.mono B0.out.size))
  clear hb B0
  go_wp2
  go_ret
  exact ⟨rfl, B1.out⟩
theorem bd_D (f s d : Int) (A : Option Addr) (n c : Nat) (w : World) (h : n ≤ 64) (hD : ¬ eqzE f s d = 0) :
    Calls Try.prog 10 #[.agg #[.int .i64 f, .int .i64 s, .int .i64 d], .slice A n c] w fun e w' => e = .returned (.bool true) ∧ Below w.heap.size w w' := by
  have R0 := Lib.hid (OneB.start w 68 #[.int .i64 f, .int .i64 s, .int .i64 d])
  have h64 : ¬ (64 : Int) < (n : Int) := by omega
  have CQ := Lib.hid (fun w => refEqualizerErr_any f s d w)
  obtain ⟨D, hDe⟩ : ∃ D, eqzE f s d = D := ⟨_, rfl⟩
  rw [hDe] at hD CQ
  have dD1 := neT hD
  clear hDe hD
  go_enter Try.func10, Try.ntmps10
  go_wp2_with fail
  refine (awake_any _).mono ?_
  rintro e w1 ⟨rfl, hb⟩
  have R1 := Lib.hid (OneB.later hb R0.out)
  clear hb R0
  obtain ⟨c0, c1, c2⟩ := R1.out.three
  go_wp2_with fail
  refine (CQ.out _).mono ?_
  rintro e w2 ⟨rfl, hb⟩
  have R2 := Lib.hid (OneB.later hb R1.out)
  clear hb R1
  go_wp2
  go_ret
  exact ⟨by simp, R2.out.b⟩
theorem bd_S (f s d : Int) (A : Option Addr) (n c : Nat) (xs : List Int) (w : World) (h : n ≤ 64) (hD : eqzE f s d = 0) (hr : RdI w A n xs) (hS : ¬ sigE xs = 0) :
    Calls Try.prog 10 #[.agg #[.int .i64 f, .int .i64 s, .int .i64 d], .slice A n c] w fun e w' => e = .returned (.bool true) ∧ Below w.heap.size w w' := by
  have R0 := Lib.hid (OneB.start w 68 #[.int .i64 f, .int .i64 s, .int .i64 d])
  have h64 : ¬ (64 : Int) < (n : Int) := by omega
  have CQ := Lib.hid (fun w => refEqualizerErr_any f s d w)
  rw [hD] at CQ
  have CS : Hid (∀ W, Below w.heap.size w W → Calls Try.prog 19 #[.slice A n c] W fun e w' => e = .returned (.int .i64 (sigE xs)) ∧ W = w') := fun W hb => refSignalErr_any A n c xs W (hr.below hb) (by omega)
  obtain ⟨D, hDe⟩ : ∃ D, sigE xs = D := ⟨_, rfl⟩
  rw [hDe] at hS CS
  have dD1 := neT hS
  clear hDe hS hD hr
  go_enter Try.func10, Try.ntmps10
  go_wp2_with fail
  refine (awake_any _).mono ?_
  rintro e w1 ⟨rfl, hb⟩
  have R1 := Lib.hid (OneB.later hb R0.out)
  clear hb R0
  obtain ⟨c0, c1, c2⟩ := R1.out.three
  go_wp2_with fail
  refine (CQ.out _).mono ?_
  rintro e w2 ⟨rfl, hb⟩
  have R2 := Lib.hid (OneB.later hb R1.out)
  clear hb R1
  go_wp2_with fail
  refine (CS.out _ R2.out.b).mono ?_
  rintro e w' ⟨rfl, rfl⟩
  go_wp2
  go_ret
  exact ⟨by simp, R2.out.b⟩
theorem bounded_walk (f s d : Int) (A : Option Addr) (n c : Nat) (xs : List Int) (w : World) (hr : RdI w A n xs) (hn0 : n ≤ 9223372036854775807) (hA : A = none → n = 0 ∧ c = 0) :
    Calls Try.prog 10 #[.agg #[.int .i64 f, .int .i64 s, .int .i64 d], .slice A n c] w fun e w' => e = .returned (.bool true) ∧ Below w.heap.size w w' := by
  by_cases hn : n ≤ 64
  rotate_left
  · exact bd_far f s d A n c w hn0 (by omega)
  by_cases hD : eqzE f s d = 0
  rotate_left
  · exact bd_D f s d A n c w hn hD
  by_cases hS : sigE xs = 0
  rotate_left
  · exact bd_S f s d A n c xs w hn hD hr hS
  have hok : EqOk f s d := eqzE_zero hD
  have hd : 1 ≤ d ∧ d ≤ 1000 := hok.2.2
  have hxs := (sigE_zero hS).2
  have hge := mxA_ge xs 0
  have hle : mxA xs 0 ≤ 32767 := mxA_le xs 0 (by omega) (fun x hx => absF_le.2 (hxs x hx))
  have CQ := fun W => refEqualizerErr_any f s d W
  have CS := fun W (h : RdI W A n xs) => refSignalErr_any A n c xs W h (by omega)
  rw [hD] at CQ
  rw [hS] at CS
  obtain ⟨mo, hmo⟩ : ∃ mo, mxA xs 0 = mo := ⟨_, rfl⟩
  rw [hmo] at hge hle
  have hxm : ∀ x ∈ xs, -mo ≤ x ∧ x ≤ mo := fun x hx => absF_le.1 (hge.2 x hx)
  have hq : eqaE f s d mo = 0 := by
    rw [eqaE_two hD]
    exact rngE_of ⟨hge.1, hle⟩
  have CSt := fun W => StableBound_any f s d mo W
  have CCk := fun (b : Int) W => CheckBound_any f s d mo b W
  have hg := good_stb hq
  rw [hg.1, hg.2] at CSt
  by_cases hst : d ≤ strF f s
  · rw [if_pos (by omega), if_pos (by omega)] at CSt
    exact bdw_open f s d A n c xs w hok mo hmo hst hr hxs hn hA CQ CS CSt
  · rw [if_neg (by omega), if_neg (by omega)] at CSt
    have hpos : 0 < d - strF f s := by omega
    have hf := stab_facts (f := f) (s := s) hd ⟨hge.1, hle⟩ hpos
    have hiff := fun b => isB_iff (f := f) (s := s) (d := d) (a := mo) (b := b) (by omega) hpos
    obtain ⟨b, hb⟩ : ∃ b, upF (mo * d) (d - strF f s) = b := ⟨_, rfl⟩
    rw [hb] at hf hiff CSt
    have hbd := eqR_bounded f s d (B := b) (m := mo) (by omega) hf.1.1 (by omega) hf.2 xs 0 0 (by omega) (by omega) hxm
    have hl : (eqR f s d 0 0 xs).1.length = n := (eqR_len f s d xs 0 0 hbd.1).trans hr.1
    have h1 := eql_ok (xs := xs) hD hS
    have hy : eqY f s d xs = (eqR f s d 0 0 xs).1 := by unfold eqY; rw [if_pos hbd.1]
    rw [hbd.1, hy] at h1
    have CEx := fun B cb W h => eq_toN (n := n) h1 hl (by omega) B cb W h
    have k1 : ckbE f s d mo b = 0 := by
      rw [good_ckb hq, fromB_one, if_pos (decide_eq_true (by omega)), hiff b, if_pos (decide_eq_true (Int.le_refl _))]
    have C1 := fun W => CCk b W
    rw [k1] at C1
    by_cases h0 : 0 < b
    · have k2 : ckbE f s d mo (b - 1) = 19 := by
        rw [good_ckb hq, fromB_one, if_pos (decide_eq_true (by omega)), hiff (b - 1), if_neg (by simp; omega)]
      have C2 := fun W => CCk (b - 1) W
      rw [k2] at C2
      exact bdw_pos f s d A n c xs w hok mo hmo b ⟨h0, by omega⟩ _ hl hbd.2 (by omega) hr hxs hn hA CQ CS CSt C1 C2 CEx
    · have hb0 : b = 0 := by omega
      subst hb0
      exact bdw_zero f s d A n c xs w hok mo hmo _ hl hbd.2 (by omega) hr hxs hn hA CQ CS CSt C1 CEx

end Go.Proofs.Ytghpofhpkbgckaa
