import Derived.Test.YtkemoffagdilgaaDoorW23
namespace Go.Proofs.YtkemoffagdilgaaDoor
open Go.RowKit

theorem size_any (n : Int) (h0 : -9223372036854775808 < n) (h1 : n ≤ 9223372036854775807) (w : World) :
    Calls Tryd.prog 50 #[.int .i64 n] w fun e w' => e = .returned (.int .i64 (n.natAbs : Int)) ∧ w = w' := by
  go_enter Tryd.func50, Tryd.ntmps50
  go_wp2
  all_goals
    go_ret
    refine ⟨?_, rfl⟩
    first
    | (show Ending.returned (Value.int .i64 (-n)) = _; congr 2; omega)
    | (show Ending.returned (Value.int .i64 n) = _; congr 2; omega)

theorem gcd_any (a b : Int) (ha0 : -9223372036854775808 ≤ a) (ha1 : a ≤ 9223372036854775807) (hb : 0 < b) (hb1 : b ≤ 9223372036854775807) (w : World) :
    Calls Tryd.prog 51 #[.int .i64 a, .int .i64 b] w fun e w' => e = .returned (.int .i64 (Int.gcd a b)) ∧ ∃ n, w' = w.drewN n := by
  go_enter Tryd.func51, Tryd.ntmps51
  go_wp2
  go_loopw [0, 1] (fun s t wr => ∃ x y : Int, s = .int .i64 x ∧ t = .int .i64 y ∧ Hid (Int.gcd x y = Int.gcd a b) ∧ -9223372036854775808 ≤ x ∧ x ≤ 9223372036854775807 ∧ -9223372036854775808 < y ∧ y ≤ 9223372036854775807 ∧ Hid (y = 0 → -9223372036854775808 < x) ∧ Hid (∃ n, wr = w.drewN n)) (fun _ t _ => (intOf t).natAbs)
  case atStart => exact ⟨a, b, rfl, rfl, rfl, ha0, ha1, by omega, hb1, fun h => absurd h (by omega), 0, rfl⟩
  case round =>
    obtain ⟨x, y, rfl, rfl, hg, hx0, hx1, hy0, hy1, hz, hw⟩ := hrel
    by_cases h0 : y = 0
    · subst h0
      have hx2 := hz.out rfl
      go_wp2_with (go_at_call 50; refine (size_any x hx2 hx1 _).mono ?_; rintro e w' ⟨rfl, rfl⟩)
      go_ret
      refine ⟨?_, hw.out⟩
      have e := hg.out
      simp only [Int.gcd_zero_right] at e
      rw [← e]
      rfl
    · have h1 : (y == 0) = false := by simpa using h0
      have h2 : (y != 0) = true := by simpa using h0
      have hm := natAbs_tmod_lt x y h0
      have hg2 := gcd_step x y h0
      have HG : Hid (Int.gcd y (x.tmod y) = Int.gcd a b) := hg2.trans hg.out
      clear hg2
      have HM : Hid ((x.tmod y).natAbs < y.natAbs) := hm
      clear hm
      go_wp2
      go_quiet (fail)
      go_wp2
      go_roundw
      case rel =>
        obtain ⟨n, hn⟩ := hw.out
        have hb1 := HM.out
        refine ⟨y, x.tmod y, rfl, rfl, HG, by omega, by omega, by omega, by omega, fun _ => by omega, n + nq, ?_⟩
        rw [hn, World.drewN_drewN]
      case measure => exact HM.out

theorem isLowestB_any (n d : Int) (hn0 : -9223372036854775808 ≤ n) (hn1 : n ≤ 9223372036854775807) (hd1 : d ≤ 9223372036854775807) (w : World) :
    Calls Tryd.prog 26 #[.agg #[.int .i64 n, .int .i64 d]] w fun e w' => e = .returned (.bool (lowB n d)) ∧ Below w.heap.size w w' := by
  by_cases h : 0 < d
  · have hd : decide (0 < d) = true := by simpa using h
    obtain ⟨g, hg⟩ : ∃ g : Int, g = (Int.gcd n d : Int) := ⟨_, rfl⟩
    have HG := Lib.hid hg
    have c := gcd_any n d hn0 hn1 h hd1
    rw [← hg] at c
    clear hg
    have C : Hid (∀ w, Calls Tryd.prog 51 #[.int .i64 n, .int .i64 d] w fun e w' => e = .returned (.int .i64 g) ∧ ∃ n, w' = w.drewN n) := c
    clear c
    go_enter Tryd.func26, Tryd.ntmps26
    go_wp2_with (go_at_call 51; refine (C.out _).mono ?_; rintro e w' ⟨rfl, k, rfl⟩)
    go_ret
    refine ⟨?_, ?_⟩
    · have := HG.out
      simp [lowB, h, ← this]
      try rfl
    · exact blw_drewN ((Below.refl _ _).alloc (Nat.le_refl _) _) _
  · go_enter Tryd.func26, Tryd.ntmps26
    go_wp2
    go_ret
    exact ⟨by simp [lowB]; omega, (Below.refl _ _).alloc (Nat.le_refl _) _⟩

end Go.Proofs.YtkemoffagdilgaaDoor
