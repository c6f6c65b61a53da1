import Derived.Test.YtkemoffagdilgaaGreatDoorW29
import Derived.Test.YtkemoffagdilgaaGreatDoorW18
namespace Go.Proofs.YtkemoffagdilgaaGreatDoor
open Go.RowKit

def nmOk (k : Nat) (c : Int) : Bool := letB c || (decide (0 < k) && (c == 45 || digB c))
def nmP (l : List UInt8) (k : Nat) : Bool := (l.take k).all okCh && (decide (k = 0) || letB (l.getD 0 0).toNat)

theorem nmP_zero (l : List UInt8) : nmP l 0 = true := rfl
theorem nmP_succ (s : ByteArray) (k : Nat) (h : k < s.size) : nmP s.data.toList (k + 1) = (nmP s.data.toList k && nmOk k ((s[k].toNat : Nat) : Int)) := by
  rw [nmP, nmP, okCh_take s k h]
  have hz : decide (k + 1 = 0) = false := by simp
  rw [hz, Bool.false_or]
  cases k with
  | zero =>
    have hf : s.data.toList.getD 0 0 = s[0] := by
      rw [List.getD_eq_getElem?_getD, List.getElem?_eq_getElem (by simpa using h)]
      rfl
    rw [hf]
    simp [okCh, nmOk]
    cases letB ((s[0].toNat : Nat) : Int) <;> simp
  | succ k =>
    have e : okCh s[k+1] = nmOk (k + 1) ((s[k+1].toNat : Nat) : Int) := by
      simp [okCh, nmOk]
      cases letB ((s[k+1].toNat : Nat) : Int) <;> cases digB ((s[k+1].toNat : Nat) : Int) <;> simp
    rw [e]
    simp
    cases nmOk (k + 1) ((s[k+1].toNat : Nat) : Int) <;> cases (letB ((s.data.toList.getD 0 0).toNat : Int)) <;> simp_all
theorem nameB_false (s : ByteArray) (k : Nat) (hk : k < s.size) (h : nmP s.data.toList (k + 1) = false) : nameB s.data.toList = false := by
  rw [nmP] at h
  have hz : decide (k + 1 = 0) = false := by simp
  rw [hz, Bool.false_or] at h
  rw [nameB]
  cases hl : letB ((s.data.toList.getD 0 0).toNat : Int)
  · simp
  · rw [hl, Bool.and_true] at h
    rw [all_take_false _ _ h]
    simp
theorem nameB_true (s : ByteArray) (h0 : 1 ≤ s.size) (h1 : s.size ≤ 12) (h : nmP s.data.toList s.size = true) : nameB s.data.toList = true := by
  have hlen : s.data.toList.length = s.size := by simp
  rw [nmP, List.take_of_length_le (by omega)] at h
  have hz : decide (s.size = 0) = false := decide_eq_false (by omega)
  rw [hz, Bool.false_or] at h
  rw [nameB, hlen]
  have e1 : decide (1 ≤ s.size) = true := decide_eq_true h0
  have e2 : decide (s.size ≤ 12) = true := decide_eq_true h1
  rw [e1, e2, Bool.true_and, Bool.true_and, Bool.and_comm]
  exact h

theorem nmOk_t1 (k : Nat) (c : Int) (h : (97 ≤ c ∧ c ≤ 122) ∨ (65 ≤ c ∧ c ≤ 90)) : nmOk k c = true := by
  simp [nmOk, letB, digB]; omega
theorem nmOk_t2 (k : Nat) (c : Int) (hk : ¬ k = 0) (h : c = 45 ∨ (48 ≤ c ∧ c ≤ 57)) : nmOk k c = true := by
  simp [nmOk, letB, digB]; omega
theorem nmOk_f0 (k : Nat) (c : Int) (hk : k = 0) (h : ¬ ((97 ≤ c ∧ c ≤ 122) ∨ (65 ≤ c ∧ c ≤ 90))) : nmOk k c = false := by
  simp [nmOk, letB, digB]; omega
theorem nmOk_f (k : Nat) (c : Int) (h : ¬ ((97 ≤ c ∧ c ≤ 122) ∨ (65 ≤ c ∧ c ≤ 90))) (h2 : ¬ (c = 45 ∨ (48 ≤ c ∧ c ≤ 57))) : nmOk k c = false := by
  simp [nmOk, letB, digB]; omega

end Go.Proofs.YtkemoffagdilgaaGreatDoor
