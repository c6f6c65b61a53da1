import Derived.Test.YtepcciodhppbnaaE9

namespace Go.Proofs.Ytepcciodhppbnaa
open Go.RowKit

def remF (d f : Int) : Int := if d = 1 then f * (f - 64) else (f + 64) * f * (f - 64) * (f - 128)
def rdn (d : Int) : Int := if d = 1 then 8192 else 402653184
theorem rem_bd1 {f : Int} (h : 0 ≤ f ∧ f ≤ 63) : -76800000 ≤ f * (f - 64) ∧ f * (f - 64) ≤ 76800000 := by
  have := mulB (a := f) (b := f - 64) 64 64 (by omega) (by omega) (by omega) (by omega) 4096 (by omega)
  omega
theorem rem_bd3 {f : Int} (h : 0 ≤ f ∧ f ≤ 63) : -76800000 ≤ (f + 64) * f * (f - 64) * (f - 128) ∧ (f + 64) * f * (f - 64) * (f - 128) ≤ 76800000 := by
  obtain ⟨a1, a2, b1, b2, c1, c2, d1, d2, d3⟩ := prods h
  exact d3
def degfE (d f : Int) : Int := firstNZ [degE d, frcE f]
theorem degE_of1 : degE 1 = 0 := by unfold degE; simp
theorem degE_of3 : degE 3 = 0 := by unfold degE; simp
theorem degE_no {d : Int} (h1 : d ≠ 1) (h3 : d ≠ 3) : degE d = 15 := by unfold degE; rw [if_neg (by omega)]
theorem degfE_zero {d f : Int} (h : degfE d f = 0) : 0 ≤ f ∧ f ≤ 63 := rngE_zero (firstNZ_zero h (frcE f) (by simp))

def remN (d f : Int) : Int := if degfE d f = 0 then frN (remF d f) (rdn d) else 0
def remD (d f : Int) : Int := if degfE d f = 0 then frD (remF d f) (rdn d) else 0
theorem retA2 {a b c x y z : Int} (h : a = x) (k : b = y) (l : c = z) : Ending.returned (.tuple #[.agg #[.int .i64 a, .int .i64 b], .int .i64 c]) = Ending.returned (.tuple #[.agg #[.int .i64 x, .int .i64 y], .int .i64 z]) := by rw [h, k, l]
/-- The greatest remainder's size up to a fraction. -/
def mxR (d : Int) : Nat → Int
  | 0 => 0
  | k + 1 => max (mxR d k) (absF (remF d k))

end Go.Proofs.Ytepcciodhppbnaa
