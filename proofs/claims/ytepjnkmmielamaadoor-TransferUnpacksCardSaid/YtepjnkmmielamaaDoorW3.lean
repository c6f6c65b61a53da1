import Derived.Test.YtepjnkmmielamaaDoorW2
import Derived.Deep.QuietTactic
import Derived.BigQuiet
namespace Go.Proofs.YtepjnkmmielamaaDoor
open Go.RowKit

theorem blw_drewN {B : Nat} {a w : World} (h : Below B a w) (n : Nat) : Below B a (w.drewN n) := ⟨h.os, h.tape, h.output, h.size, h.block⟩

def letB (c : Int) : Bool := (decide (97 ≤ c) && decide (c ≤ 122)) || (decide (65 ≤ c) && decide (c ≤ 90))
def digB (c : Int) : Bool := decide (48 ≤ c) && decide (c ≤ 57)

theorem isLetter_any (c : Int) (w : World) :
    Calls Tryd.prog 142 #[.int .u8 c] w fun e w' => e = .returned (.bool (letB c)) ∧ w = w' := by
  by_cases h1 : 97 ≤ c
  · by_cases h2 : c ≤ 122
    · go_enter Tryd.func142, Tryd.ntmps142
      go_wp2
      go_ret
      exact ⟨by simp [letB, h1, h2], rfl⟩
    · have h3 : 65 ≤ c := by omega
      have h4 : ¬ c ≤ 90 := by omega
      go_enter Tryd.func142, Tryd.ntmps142
      go_wp2
      go_ret
      exact ⟨by simp [letB]; omega, rfl⟩
  · by_cases h3 : 65 ≤ c
    · by_cases h4 : c ≤ 90
      · go_enter Tryd.func142, Tryd.ntmps142
        go_wp2
        go_ret
        exact ⟨by simp [letB]; omega, rfl⟩
      · go_enter Tryd.func142, Tryd.ntmps142
        go_wp2
        go_ret
        exact ⟨by simp [letB]; omega, rfl⟩
    · go_enter Tryd.func142, Tryd.ntmps142
      go_wp2
      go_ret
      exact ⟨by simp [letB]; omega, rfl⟩

theorem isDigit_any (c : Int) (w : World) :
    Calls Tryd.prog 143 #[.int .u8 c] w fun e w' => e = .returned (.bool (digB c)) ∧ w = w' := by
  by_cases h1 : 48 ≤ c
  · go_enter Tryd.func143, Tryd.ntmps143
    go_wp2
    go_ret
    exact ⟨by simp [digB, h1], rfl⟩
  · go_enter Tryd.func143, Tryd.ntmps143
    go_wp2
    go_ret
    exact ⟨by simp [digB]; omega, rfl⟩

theorem gcd_step (x y : Int) (hy : y ≠ 0) : Int.gcd y (x.tmod y) = Int.gcd x y := by
  have h : x.tmod y = x - y * (x.tdiv y) := by have := Int.tmod_add_mul_tdiv x y; omega
  rw [h, Int.gcd_comm x y]
  have := Int.gcd_sub_mul_left_right y x (x.tdiv y)
  first | exact this | simpa using this

theorem natAbs_tmod_lt (x y : Int) (hy : y ≠ 0) : (x.tmod y).natAbs < y.natAbs := by
  rw [Int.natAbs_tmod]
  exact Nat.mod_lt _ (by omega)

theorem commonDivisor_any (a b : Int) (ha0 : -9223372036854775808 ≤ a) (ha1 : a ≤ 9223372036854775807) (hb : 0 < b) (hb1 : b ≤ 9223372036854775807) (w : World) :
    Calls Tryd.prog 140 #[.int .i64 a, .int .i64 b] w fun e w' => e = .returned (.int .i64 (Int.gcd a b)) ∧ ∃ n, w' = w.drewN n := by
  go_enter Tryd.func140, Tryd.ntmps140
  go_wp2
  go_loopw [0, 1] (fun s t wr => ∃ x y : Int, s = .int .i64 x ∧ t = .int .i64 y ∧ Hid (Int.gcd x y = Int.gcd a b) ∧ -9223372036854775808 ≤ x ∧ x ≤ 9223372036854775807 ∧ -9223372036854775808 < y ∧ y ≤ 9223372036854775807 ∧ Hid (y = 0 → -9223372036854775808 < x) ∧ Hid (∃ n, wr = w.drewN n)) (fun _ t _ => (intOf t).natAbs)
  case atStart => exact ⟨a, b, rfl, rfl, rfl, ha0, ha1, by omega, hb1, fun h => absurd h (by omega), 0, rfl⟩
  case round =>
    obtain ⟨x, y, rfl, rfl, hg, hx0, hx1, hy0, hy1, hz, hw⟩ := hrel
    by_cases h0 : y = 0
    · subst h0
      have hx2 := hz.out rfl
      go_wp2
      all_goals
        go_ret
        refine ⟨?_, hw.out⟩
        have e := hg.out
        simp only [Int.gcd_zero_right] at e
        rw [← e]
        first
        | (show Ending.returned (Value.int .i64 (-x)) = _; congr 2; omega)
        | (show Ending.returned (Value.int .i64 x) = _; congr 2; omega)
    · have h1 : (y == 0) = false := by simpa using h0
      have h2 : (y != 0) = true := by simpa using h0
      have hm := natAbs_tmod_lt x y h0
      have hg2 := gcd_step x y h0
      have HG : Hid (Int.gcd y (x.tmod y) = Int.gcd a b) := hg2.trans hg.out
      clear hg2
      have HM : Hid ((x.tmod y).natAbs < y.natAbs) := hm
      clear hm
      go_wp2
      go_quiet (fail)
      go_wp2
      go_roundw
      case rel =>
        obtain ⟨n, hn⟩ := hw.out
        have hb1 := HM.out
        refine ⟨y, x.tmod y, rfl, rfl, HG, by omega, by omega, by omega, by omega, fun _ => by omega, n + nq, ?_⟩
        rw [hn, World.drewN_drewN]
      case measure => exact HM.out

/-- What 'a fraction in lowest terms' comes to. -/
def lowB (n d : Int) : Bool := decide (0 < d) && decide ((Int.gcd n d : Int) = 1)

theorem isLowest_any (n d : Int) (hn0 : -9223372036854775808 ≤ n) (hn1 : n ≤ 9223372036854775807) (hd1 : d ≤ 9223372036854775807) (w : World) :
    Calls Tryd.prog 81 #[.agg #[.int .i64 n, .int .i64 d]] w fun e w' => e = .returned (.bool (lowB n d)) ∧ Below w.heap.size w w' := by
  by_cases h : 0 < d
  · have hd : decide (0 < d) = true := by simpa using h
    obtain ⟨g, hg⟩ : ∃ g : Int, g = (Int.gcd n d : Int) := ⟨_, rfl⟩
    have HG := Lib.hid hg
    have c := commonDivisor_any n d hn0 hn1 h hd1
    rw [← hg] at c
    clear hg
    have C : Hid (∀ w, Calls Tryd.prog 140 #[.int .i64 n, .int .i64 d] w fun e w' => e = .returned (.int .i64 g) ∧ ∃ n, w' = w.drewN n) := c
    clear c
    go_enter Tryd.func81, Tryd.ntmps81
    go_wp2_with (go_at_call 140; refine (C.out _).mono ?_; rintro e w' ⟨rfl, k, rfl⟩)
    go_ret
    refine ⟨?_, ?_⟩
    · have := HG.out
      simp [lowB, h, ← this]
      try rfl
    · exact blw_drewN ((Below.refl _ _).alloc (Nat.le_refl _) _) _
  · go_enter Tryd.func81, Tryd.ntmps81
    go_wp2
    go_ret
    exact ⟨by simp [lowB]; omega, (Below.refl _ _).alloc (Nat.le_refl _) _⟩

end Go.Proofs.YtepjnkmmielamaaDoor
