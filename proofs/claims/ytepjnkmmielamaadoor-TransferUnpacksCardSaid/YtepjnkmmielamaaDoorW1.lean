import Derived.Test.YtepjnkmmielamaaDoorProg
import Derived.WalkKit
import Derived.WalkSpells
import Derived.WalkLawsBesides
import Derived.Lib.Hide
namespace Go.Proofs.YtepjnkmmielamaaDoor
open Go.RowKit

def inB (n lo hi : Int) : Bool := decide (lo ≤ n) && decide (n ≤ hi)

theorem within_any (n lo hi : Int) (w : World) :
    Calls Tryd.prog 26 #[.int .i64 n, .int .i64 lo, .int .i64 hi] w fun e w' => e = .returned (.bool (inB n lo hi)) ∧ w = w' := by
  by_cases h1 : lo ≤ n
  · go_enter Tryd.func26, Tryd.ntmps26
    go_wp2
    go_ret
    exact ⟨by simp [inB, h1], rfl⟩
  · go_enter Tryd.func26, Tryd.ntmps26
    go_wp2
    go_ret
    exact ⟨by simp [inB]; omega, rfl⟩

def whenE (b : Bool) (e : Int) : Int := if b then e else 0

theorem when_any (b : Bool) (e : Int) (w : World) :
    Calls Tryd.prog 75 #[.bool b, .int .i64 e] w fun r w' => r = .returned (.int .i64 (whenE b e)) ∧ w = w' := by
  cases b
  all_goals
    go_enter Tryd.func75, Tryd.ntmps75
    go_wp2
    go_ret
    exact ⟨rfl, rfl⟩

def rangeE (n lo hi : Int) : Int := if inB n lo hi then 0 else 2

theorem checkRange_any (n lo hi : Int) (w : World) :
    Calls Tryd.prog 76 #[.int .i64 n, .int .i64 lo, .int .i64 hi] w fun r w' => r = .returned (.int .i64 (rangeE n lo hi)) ∧ w = w' := by
  by_cases h1 : n < lo
  · go_enter Tryd.func76, Tryd.ntmps76
    go_wp2_with (go_at_call 75; refine (when_any _ _ _).mono ?_; rintro e w' ⟨rfl, rfl⟩)
    go_ret
    exact ⟨by simp [rangeE, inB, whenE]; omega, rfl⟩
  · go_enter Tryd.func76, Tryd.ntmps76
    go_wp2_with (go_at_call 75; refine (when_any _ _ _).mono ?_; rintro e w' ⟨rfl, rfl⟩)
    go_ret
    exact ⟨by simp [rangeE, inB, whenE]; split <;> split <;> omega, rfl⟩

theorem tmod_bd (n b : Int) (hb : 0 < b) : -b < n.tmod b ∧ n.tmod b < b := by
  have h1 := Int.tmod_lt_of_pos n hb
  have h2 : -b < n.tmod b := by have h3 := Int.tmod_lt_of_pos (-n) hb; rw [Int.neg_tmod] at h3; omega
  exact ⟨h2, h1⟩
theorem tmod_eq (n b : Int) (hb : 0 < b) : n.tmod b = n % b ∨ n.tmod b = n % b - b := by
  rw [Int.tmod_eq_emod]
  split
  · left; omega
  · right; omega
theorem tmod_neg (n b : Int) (hb : 0 < b) (h : n.tmod b < 0) : n.tmod b + b = n % b := by
  rcases tmod_eq n b hb with e | e
  · have := Int.emod_nonneg n (by omega : b ≠ 0); omega
  · omega
theorem tmod_pos (n b : Int) (hb : 0 < b) (h : 0 ≤ n.tmod b) : n.tmod b = n % b := by
  rcases tmod_eq n b hb with e | e
  · exact e
  · have := Int.emod_lt_of_pos n hb; omega

theorem mod_any (n b : Int) (hn0 : -9223372036854775808 ≤ n) (hn1 : n ≤ 9223372036854775807) (hb : 0 < b) (hb2 : b ≤ 4611686018427387904) (w : World) :
    Calls Tryd.prog 27 #[.int .i64 n, .int .i64 b] w fun r w' => r = .returned (.int .i64 (n % b)) ∧ w = w' := by
  go_enter Tryd.func27, Tryd.ntmps27
  go_wp2
  all_goals go_ret
  · have h : n.tmod b < 0 := by assumption
    have h1 := tmod_bd n b hb
    refine ⟨?_, rfl⟩
    show Ending.returned (Value.int .i64 (wrap64 (n.tmod b + b))) = _
    rw [IntWalk.wrap64_in _ ⟨by omega, by omega⟩, tmod_neg n b hb h]
  · have h : 0 ≤ n.tmod b := by assumption
    refine ⟨?_, rfl⟩
    show Ending.returned (Value.int .i64 (n.tmod b)) = _
    rw [tmod_pos n b hb h]

end Go.Proofs.YtepjnkmmielamaaDoor
