import Derived.Test.YtkemoffagdilgaaDoorW29
import Derived.Test.YtkemoffagdilgaaDoorW18
namespace Go.Proofs.YtkemoffagdilgaaDoor
open Go.RowKit

def nmOk (k : Nat) (c : Int) : Bool := letB c || (decide (0 < k) && (c == 45 || digB c))
def nmP (l : List UInt8) (k : Nat) : Bool := (l.take k).all okCh && (decide (k = 0) || letB (l.getD 0 0).toNat)

theorem nmP_zero (l : List UInt8) : nmP l 0 = true := rfl
theorem nmP_succ (s : ByteArray) (k : Nat) (h : k < s.size) : nmP s.data.toList (k + 1) = (nmP s.data.toList k && nmOk k ((s[k].toNat : Nat) : Int)) := by
  rw [nmP, nmP, okCh_take s k h]
  have hz : decide (k + 1 = 0) = false := by simp
  rw [hz, Bool.false_or]
  cases k with
  | zero =>
    have hf : s.data.toList.getD 0 0 = s[0] := by
      rw [List.getD_eq_getElem?_getD, List.getElem?_eq_getElem (by simpa using h)]
      rfl
    rw [hf]
    simp [okCh, nmOk]
    cases letB ((s[0].toNat : Nat) : Int) <;> simp
  | succ k =>
    have e : okCh s[k+1] = nmOk (k + 1) ((s[k+1].toNat : Nat) : Int) := by
      simp [okCh, nmOk]
      cases letB ((s[k+1].toNat : Nat) : Int) <;> cases digB ((s[k+1].toNat : Nat) : Int) <;> simp
    rw [e]
    simp
    cases nmOk (k + 1) ((s[k+1].toNat : Nat) : Int) <;> cases (letB ((s.data.toList.getD 0 0).toNat : Int)) <;> simp_all
theorem nameB_false (s : ByteArray) (k : Nat) (hk : k < s.size) (h : nmP s.data.toList (k + 1) = false) : nameB s.data.toList = false := by
  rw [nmP] at h
  have hz : decide (k + 1 = 0) = false := by simp
  rw [hz, Bool.false_or] at h
  rw [nameB]
  cases hl : letB ((s.data.toList.getD 0 0).toNat : Int)
  · simp
  · rw [hl, Bool.and_true] at h
    rw [all_take_false _ _ h]
    simp
theorem nameB_true (s : ByteArray) (h0 : 1 ≤ s.size) (h1 : s.size ≤ 12) (h : nmP s.data.toList s.size = true) : nameB s.data.toList = true := by
  have hlen : s.data.toList.length = s.size := by simp
  rw [nmP, List.take_of_length_le (by omega)] at h
  have hz : decide (s.size = 0) = false := decide_eq_false (by omega)
  rw [hz, Bool.false_or] at h
  rw [nameB, hlen]
  have e1 : decide (1 ≤ s.size) = true := decide_eq_true h0
  have e2 : decide (s.size ≤ 12) = true := decide_eq_true h1
  rw [e1, e2, Bool.true_and, Bool.true_and, Bool.and_comm]
  exact h

theorem nmOk_t1 (k : Nat) (c : Int) (h : (97 ≤ c ∧ c ≤ 122) ∨ (65 ≤ c ∧ c ≤ 90)) : nmOk k c = true := by
  simp [nmOk, letB, digB]; omega
theorem nmOk_t2 (k : Nat) (c : Int) (hk : ¬ k = 0) (h : c = 45 ∨ (48 ≤ c ∧ c ≤ 57)) : nmOk k c = true := by
  simp [nmOk, letB, digB]; omega
theorem nmOk_f0 (k : Nat) (c : Int) (hk : k = 0) (h : ¬ ((97 ≤ c ∧ c ≤ 122) ∨ (65 ≤ c ∧ c ≤ 90))) : nmOk k c = false := by
  simp [nmOk, letB, digB]; omega
theorem nmOk_f (k : Nat) (c : Int) (h : ¬ ((97 ≤ c ∧ c ≤ 122) ∨ (65 ≤ c ∧ c ≤ 90))) (h2 : ¬ (c = 45 ∨ (48 ≤ c ∧ c ≤ 57))) : nmOk k c = false := by
  simp [nmOk, letB, digB]; omega

set_option maxHeartbeats 2000000 in
theorem isNameB_any (s : ByteArray) (w : World) (hs : s.size ≤ 9223372036854775806) :
    Calls Tryd.prog 25 #[.string s] w fun e w' => e = .returned (.bool (nameB s.data.toList)) ∧ w = w' := by
  have hlen : s.data.toList.length = s.size := by simp
  have HL := Lib.hid hlen; clear hlen
  by_cases h0 : (s.size : Int) < 1
  · have HN : Hid (nameB s.data.toList = false) := by
      show _ = _; simp only [nameB, HL.out]
      have e : decide (1 ≤ s.size) = false := decide_eq_false (by omega)
      rw [e]; rfl
    go_enter Tryd.func25, Tryd.ntmps25
    go_wp2
    go_ret
    exact ⟨by rw [HN.out]; rfl, rfl⟩
  by_cases h1 : (12 : Int) < s.size
  · have HN : Hid (nameB s.data.toList = false) := by
      show _ = _; simp only [nameB, HL.out]
      have e : decide (s.size ≤ 12) = false := decide_eq_false (by omega)
      simp [e]
    go_enter Tryd.func25, Tryd.ntmps25
    go_wp2
    go_ret
    exact ⟨by rw [HN.out]; rfl, rfl⟩
  go_enter Tryd.func25, Tryd.ntmps25
  go_wp2
  go_loop [3] (fun i => ∃ k : Nat, k ≤ s.size ∧ i = .int .i64 k ∧ Hid (nmP s.data.toList k = true)) (fun i => s.size - (intOf i).toNat)
  case atStart => exact ⟨0, Nat.zero_le _, rfl, rfl⟩
  case round =>
    obtain ⟨k, hk, rfl, HA⟩ := hrel
    by_cases hlt : k < s.size
    · have hst := nmP_succ s k hlt
      have HST := Lib.hid hst; clear hst
      by_cases hk0 : k = 0
      · have gk : ((k : Int) == 0) = true := by simp [hk0]
        have HK : Hid (k = 0) := hk0
        clear hk0
        rcases (show ((s[k].toNat : Nat) : Int) < 65 ∨ (65 ≤ ((s[k].toNat : Nat) : Int) ∧ ((s[k].toNat : Nat) : Int) ≤ 90) ∨ (90 < ((s[k].toNat : Nat) : Int) ∧ ((s[k].toNat : Nat) : Int) < 97) ∨ (97 ≤ ((s[k].toNat : Nat) : Int) ∧ ((s[k].toNat : Nat) : Int) ≤ 122) ∨ 122 < ((s[k].toNat : Nat) : Int) from by omega) with h | ⟨h, h2⟩ | ⟨h, h2⟩ | ⟨h, h2⟩ | h
        all_goals
          go_wp2
        all_goals
          first
            | (exfalso; simp only [Bool.not_eq_false', decide_eq_true_eq] at *; omega)
            | (go_round
               case rel =>
                 refine ⟨k + 1, by omega, by go_num, ?_⟩
                 show _ = _
                 rw [HST.out, HA.out, nmOk_t1 k _ (by omega)]; rfl
               case measure => simp [intOf]; omega)
            | (go_ret
               refine ⟨?_, rfl⟩
               rw [nameB_false s k hlt (by rw [HST.out, HA.out, nmOk_f0 k _ HK.out (by omega)]; rfl)]
               rfl)
      · have gk : ((k : Int) == 0) = false := beq_eq_false_iff_ne.2 (by omega)
        have HK : Hid (¬ k = 0) := hk0
        clear hk0
        have hne : ∀ c : Int, c ≠ 45 → (c != 45) = true := fun c h => by simpa using h
        have heq : ∀ c : Int, c = 45 → (c != 45) = false := fun c h => by simpa using h
        rcases (show ((s[k].toNat : Nat) : Int) < 45 ∨ ((s[k].toNat : Nat) : Int) = 45 ∨ (45 < ((s[k].toNat : Nat) : Int) ∧ ((s[k].toNat : Nat) : Int) < 48) ∨ (48 ≤ ((s[k].toNat : Nat) : Int) ∧ ((s[k].toNat : Nat) : Int) ≤ 57) ∨ (57 < ((s[k].toNat : Nat) : Int) ∧ ((s[k].toNat : Nat) : Int) < 65) ∨ (65 ≤ ((s[k].toNat : Nat) : Int) ∧ ((s[k].toNat : Nat) : Int) ≤ 90) ∨ (90 < ((s[k].toNat : Nat) : Int) ∧ ((s[k].toNat : Nat) : Int) < 97) ∨ (97 ≤ ((s[k].toNat : Nat) : Int) ∧ ((s[k].toNat : Nat) : Int) ≤ 122) ∨ 122 < ((s[k].toNat : Nat) : Int) from by omega) with h | h | ⟨h, h2⟩ | ⟨h, h2⟩ | ⟨h, h2⟩ | ⟨h, h2⟩ | ⟨h, h2⟩ | ⟨h, h2⟩ | h
        all_goals
          first
          | have gn := hne ((s[k].toNat : Nat) : Int) (by omega)
          | have gn := heq ((s[k].toNat : Nat) : Int) (by omega)
          clear hne heq
          go_wp2
        all_goals
          first
            | (exfalso; simp only [Bool.not_eq_false', decide_eq_true_eq] at *; omega)
            | (go_round
               case rel =>
                 refine ⟨k + 1, by omega, by go_num, ?_⟩
                 show _ = _
                 rw [HST.out, HA.out, (show nmOk k ((s[k].toNat : Nat) : Int) = true from by first | exact nmOk_t1 k _ (by omega) | exact nmOk_t2 k _ HK.out (by omega))]; rfl
               case measure => simp [intOf]; omega)
            | (go_ret
               refine ⟨?_, rfl⟩
               rw [nameB_false s k hlt (by rw [HST.out, HA.out, nmOk_f k _ (by omega) (by omega)]; rfl)]
               rfl)
    · go_wp2
      go_ret
      refine ⟨?_, rfl⟩
      have e := HA.out
      have ek : k = s.size := by omega
      rw [nameB_true s (by omega) (by omega) (ek ▸ e)]
      rfl

end Go.Proofs.YtkemoffagdilgaaDoor
