import Derived.Test.YtnmfeonagigkeaaP2
import Derived.BigQuiet
import Derived.Deep.QuietTactic
import Derived.Maps.AppendAt
namespace Go.Proofs.Ytnmfeonagigkeaa
open Go.RowKit

/-- The error of positions. -/
def posE (xs : List Int) : Int := if 200 < xs.length then 8 else if fromB (-1000000) 1000000 xs = true then 0 else 2
set_option maxHeartbeats 1000000 in
theorem checkPositions_any (A : Option Addr) (n c : Nat) (xs : List Int) (w : World) (hr : RdI w A n xs) (hn : n ≤ 9223372036854775806) :
    Calls Try.prog 30 #[.slice A n c] w fun e w' => e = .returned (.int .i64 (posE xs)) ∧ w = w' := by
  have C := Lib.hid (areAtMost_any A n c xs 1000000 w hr hn (by omega))
  have hl := hr.1
  have HE : Hid (posE xs = if 200 < n then 8 else if fromB (-1000000) 1000000 xs = true then 0 else 2) := by show _ = _; unfold posE; rw [hl]
  clear hr hl
  by_cases h1 : 200 < n
  · have h1I : (200 : Int) < (n : Int) := by omega
    go_enter Try.func30, Try.ntmps30
    go_wp2
    go_ret
    exact ⟨by rw [HE.out, if_pos h1]; rfl, rfl⟩
  · have h1I : ¬ (200 : Int) < (n : Int) := by omega
    obtain ⟨t, ht⟩ : ∃ t, fromB (-1000000) 1000000 xs = t := ⟨_, rfl⟩
    rw [ht] at C HE
    clear ht
    cases t
    all_goals
      go_enter Try.func30, Try.ntmps30
      go_wp2_with (go_at_call 23; refine C.out.mono ?_; rintro e w' ⟨rfl, rfl⟩)
      go_ret
      exact ⟨by rw [HE.out, if_neg h1]; rfl, rfl⟩

theorem tdiv_floor (n d : Int) (hd : 0 < d) : (if n.tmod d < 0 then n.tdiv d - 1 else n.tdiv d) = n / d := by
  have h1 := Int.mul_tdiv_add_tmod n d
  have h2 := Int.tmod_lt_of_pos n hd
  have h3 : -d < n.tmod d := by have h3 := Int.tmod_lt_of_pos (-n) hd; rw [Int.neg_tmod] at h3; omega
  have h4 := Int.mul_ediv_self_le (x := n) (k := d) (by omega)
  have h5 := Int.lt_mul_ediv_self_add (x := n) (k := d) hd
  by_cases h : n.tmod d < 0
  · rw [if_pos h]
    have e : d * (n.tdiv d - 1) = d * n.tdiv d - d := by rw [Int.mul_sub, Int.mul_one]
    have a : d * (n.tdiv d - 1) ≤ d * (n / d) + d - 1 := by omega
    have b : d * (n / d) ≤ d * (n.tdiv d - 1) + d - 1 := by omega
    have a' : n.tdiv d - 1 < n / d + 1 := by
      apply Int.lt_of_mul_lt_mul_left (a := d) _ (by omega)
      rw [Int.mul_add, Int.mul_one]; omega
    have b' : n / d < n.tdiv d - 1 + 1 := by
      apply Int.lt_of_mul_lt_mul_left (a := d) _ (by omega)
      rw [Int.mul_add, Int.mul_one]; omega
    omega
  · rw [if_neg h]
    have a' : n.tdiv d < n / d + 1 := by
      apply Int.lt_of_mul_lt_mul_left (a := d) _ (by omega)
      rw [Int.mul_add, Int.mul_one]; omega
    have b' : n / d < n.tdiv d + 1 := by
      apply Int.lt_of_mul_lt_mul_left (a := d) _ (by omega)
      rw [Int.mul_add, Int.mul_one]; omega
    omega

/-- The slice at block g reads as ranges. -/
def RdR (w : World) (g n : Nat) (gs : List (Int × Int)) : Prop :=
  gs.length = n ∧ (0 < n → g < w.heap.size) ∧ ∀ j, j < n → w.cell? ⟨g, j * 2, none⟩ = some (.int .i64 (gs.getD j (0, 0)).1) ∧ w.cell? ⟨g, j * 2 + 1, none⟩ = some (.int .i64 (gs.getD j (0, 0)).2)
theorem RdR.below {w w' : World} {g n : Nat} {gs : List (Int × Int)} (h : RdR w g n gs) (hb : Below w.heap.size w w') : RdR w' g n gs :=
  ⟨h.1, fun h0 => Nat.lt_of_lt_of_le (h.2.1 h0) hb.size, fun j hj => ⟨(hb.cell (p := ⟨g, j * 2, none⟩) (h.2.1 (by omega))).trans (h.2.2 j hj).1, (hb.cell (p := ⟨g, j * 2 + 1, none⟩) (h.2.1 (by omega))).trans (h.2.2 j hj).2⟩⟩
theorem belowDrewN {n0 : Nat} {w w' : World} (h : Below n0 w w') : ∀ k, Below n0 w (w'.drewN k) := fun k => ⟨h.1, h.2, h.3, h.4, h.5⟩

def IdxRes (gs : List (Int × Int)) (p : Int × Int) (w : World) (e : Ending) (w' : World) : Prop := ∃ r : Int, e = .returned (.int .i64 r) ∧ (0 ≤ r ↔ p ∈ gs) ∧ r ≤ 1000000000 ∧ Below w.heap.size w w'

end Go.Proofs.Ytnmfeonagigkeaa
