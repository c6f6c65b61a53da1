import Derived.Test.YtepjnkmmielamaaDoorM1
import Derived.Test.YtepjnkmmielamaaDoorM5
namespace Go.Proofs.YtepjnkmmielamaaDoor

/-- The code of a number with the parameter k. -/
def codeU (u k : Nat) : List Int := List.replicate (u / 2 ^ k) 1 ++ (0 :: bitsOf u k)
theorem codeU_length (u k : Nat) : (codeU u k).length = u / 2 ^ k + 1 + k := by simp [codeU, bitsOf_length]; omega

def codesTo (us : List Int) (k : Nat) : Nat → List Int
  | 0 => []
  | i + 1 => codesTo us k i ++ codeU (us.getD i 0).toNat k
def headB (p k : Nat) : List Int := bitsOf p 2 ++ bitsOf k 5
def packW (us : List Int) (p k i : Nat) : List Int := headB p k ++ codesTo us k i
def packT (xs : List Int) : List Int := packW (foldeds xs (shortS xs).1) (shortS xs).1 (shortS xs).2.1 8

theorem headB_length (p k : Nat) : (headB p k).length = 7 := by simp [headB, bitsOf_length]
theorem codesTo_length (us : List Int) (k i : Nat) (hs : Small us) (hi : i ≤ us.length) : ((codesTo us k i).length : Int) + 7 = bitsTo us k i := by
  induction i with
  | zero => simp [codesTo, bitsTo_zero]
  | succ i ih =>
    rw [bitsTo_step us k i (by omega), ← ih (by omega)]
    simp only [codesTo, List.length_append, codeU_length]
    have h0 := (hs i).1
    obtain ⟨u, hu⟩ := Int.eq_ofNat_of_zero_le h0
    rw [hu]
    simp
    omega
theorem packW_length (us : List Int) (p k i : Nat) (hs : Small us) (hi : i ≤ us.length) : ((packW us p k i).length : Int) = bitsTo us k i := by
  rw [← codesTo_length us k i hs hi, packW, List.length_append, headB_length]
  omega

end Go.Proofs.YtepjnkmmielamaaDoor
