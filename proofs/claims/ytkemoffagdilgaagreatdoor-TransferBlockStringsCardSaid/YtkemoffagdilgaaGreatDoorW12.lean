import Derived.Test.YtkemoffagdilgaaGreatDoorW11
import Derived.Test.YtkemoffagdilgaaGreatDoorUA
namespace Go.Proofs.YtkemoffagdilgaaGreatDoor
open Go.RowKit

theorem modPrime_any (n : Int) (h0 : -4611686018427387904 ≤ n) (h1 : n ≤ 4611686018427387904) (w : World) :
    Calls Tryz.prog 59 #[.int .i64 n] w fun e w' => e = .returned (.int .i64 (n % 65537)) ∧ w = w' := by
  have hb := tmod_bd n 65537 (by omega)
  have he := tmod_eq n 65537 (by omega)
  have hr := Int.emod_nonneg n (show (65537 : Int) ≠ 0 by omega)
  have hr2 := Int.emod_lt_of_pos n (show (0 : Int) < 65537 by omega)
  have H : Hid ((n.tmod 65537 + 65537) % 65537 = n % 65537) := by show _ = _; omega
  clear he hr hr2
  go_enter Tryz.func59, Tryz.ntmps59
  go_wp2
  go_ret
  refine ⟨?_, rfl⟩
  show Ending.returned (.int .i64 ((n.tmod 65537 + 65537) % 65537)) = _
  rw [H.out]

theorem checkNumber_any (n : Int) (w : World) :
    Calls Tryz.prog 36 #[.int .i64 n] w fun e w' => e = .returned (.int .i64 (rangeE n 0 65536)) ∧ w = w' := by
  go_enter Tryz.func36, Tryz.ntmps36
  go_wp2_with (go_at_call 29; refine (checkRange_any _ _ _ _).mono ?_; rintro e w' ⟨rfl, rfl⟩)
  go_ret
  exact ⟨rfl, rfl⟩
theorem checkCounter_any (n : Int) (w : World) :
    Calls Tryz.prog 60 #[.int .i64 n] w fun e w' => e = .returned (.int .i64 (rangeE n 0 65535)) ∧ w = w' := by
  go_enter Tryz.func60, Tryz.ntmps60
  go_wp2_with (go_at_call 29; refine (checkRange_any _ _ _ _).mono ?_; rintro e w' ⟨rfl, rfl⟩)
  go_ret
  exact ⟨rfl, rfl⟩
theorem checkChannel_any (n : Int) (w : World) :
    Calls Tryz.prog 61 #[.int .i64 n] w fun e w' => e = .returned (.int .i64 (rangeE n 0 3)) ∧ w = w' := by
  go_enter Tryz.func61, Tryz.ntmps61
  go_wp2_with (go_at_call 29; refine (checkRange_any _ _ _ _).mono ?_; rintro e w' ⟨rfl, rfl⟩)
  go_ret
  exact ⟨rfl, rfl⟩

theorem inverseOf_any (n : Int) (h0 : 0 ≤ n) (h1 : n ≤ 65536) (w : World) :
    Calls Tryz.prog 37 #[.int .i64 n] w fun e w' => e = .returned (.int .i64 (invT n)) ∧ w = w' := by
  go_enter Tryz.func37, Tryz.ntmps37
  go_wp2
  go_loop [3, 4] (fun p i => ∃ k : Nat, k ≤ 16 ∧ i = .int .i64 k ∧ p = .int .i64 (powTo n k)) (fun _ i => 16 - (intOf i).toNat)
  case atStart => exact ⟨0, by omega, rfl, rfl⟩
  case round =>
    obtain ⟨k, hk, rfl, rfl⟩ := hrel
    by_cases hlt : k < 16
    · have hb := powTo_bd n k
      have hst : Hid (powTo n (k + 1) = powTo n k * powTo n k % 65537 * n % 65537) := rfl
      obtain ⟨p, hp⟩ : ∃ p, powTo n k = p := ⟨_, rfl⟩
      rw [hp] at hst hb ⊢
      clear hp
      have hpp := mul_bd2 p p 65536 65536 hb.1 hb.1 (by omega) (by omega)
      have hm0 := Int.emod_nonneg (p * p) (show (65537 : Int) ≠ 0 by omega)
      have hm1 := Int.emod_lt_of_pos (p * p) (show (0 : Int) < 65537 by omega)
      have hpn := mul_bd2 (p * p % 65537) n 65536 65536 hm0 h0 (by omega) h1
      go_wp2_with (go_at_call 59; refine (modPrime_any _ (by omega) (by omega) _).mono ?_; rintro e w' ⟨rfl, rfl⟩)
      go_round
      case rel => exact ⟨k + 1, by omega, by go_num, by rw [hst.out]⟩
      case measure => simp [intOf]; omega
    · obtain rfl : k = 16 := by omega
      go_wp2
      go_ret
      exact ⟨rfl, rfl⟩

theorem first_new (es : List Int) (n : Nat) (cs : Array Value) (w : World) (hl : es.length = n) (hn : n ≤ 100) (hc : cs.toList = es.map (Value.int .i64)) :
    Calls Tryz.prog 26 #[.slice (some ⟨w.heap.size, 0, none⟩) n n] (w.alloc (.cells cs 27)) fun e w' => e = .returned (.int .i64 (firstE es)) ∧ w.alloc (.cells cs 27) = w' := by
  refine firstError_any w.heap.size n n es _ hl (fun j hj => ?_) hn
  rw [cell_of_row _ _ j cs _ (0, 0) (heap_alloc_new w _), ← Array.getElem?_toList, hc]
  simp [List.getElem?_eq_getElem (show j < es.length by omega)]
theorem first2 (a b : Int) (w : World) :
    Calls Tryz.prog 26 #[.slice (some ⟨w.heap.size, 0, none⟩) 2 2] (w.alloc (.cells #[.int .i64 a, .int .i64 b] 27)) fun e w' => e = .returned (.int .i64 (firstE [a, b])) ∧ w.alloc (.cells #[.int .i64 a, .int .i64 b] 27) = w' :=
  first_new [a, b] 2 _ w rfl (by omega) rfl
theorem first3 (a b c : Int) (w : World) :
    Calls Tryz.prog 26 #[.slice (some ⟨w.heap.size, 0, none⟩) 3 3] (w.alloc (.cells #[.int .i64 a, .int .i64 b, .int .i64 c] 27)) fun e w' => e = .returned (.int .i64 (firstE [a, b, c])) ∧ w.alloc (.cells #[.int .i64 a, .int .i64 b, .int .i64 c] 27) = w' :=
  first_new [a, b, c] 3 _ w rfl (by omega) rfl
theorem first4 (a b c d : Int) (w : World) :
    Calls Tryz.prog 26 #[.slice (some ⟨w.heap.size, 0, none⟩) 4 4] (w.alloc (.cells #[.int .i64 a, .int .i64 b, .int .i64 c, .int .i64 d] 27)) fun e w' => e = .returned (.int .i64 (firstE [a, b, c, d])) ∧ w.alloc (.cells #[.int .i64 a, .int .i64 b, .int .i64 c, .int .i64 d] 27) = w' :=
  first_new [a, b, c, d] 4 _ w rfl (by omega) rfl
theorem first7 (a b c d f g h : Int) (w : World) :
    Calls Tryz.prog 26 #[.slice (some ⟨w.heap.size, 0, none⟩) 7 7] (w.alloc (.cells #[.int .i64 a, .int .i64 b, .int .i64 c, .int .i64 d, .int .i64 f, .int .i64 g, .int .i64 h] 27)) fun e w' => e = .returned (.int .i64 (firstE [a, b, c, d, f, g, h])) ∧ w.alloc (.cells #[.int .i64 a, .int .i64 b, .int .i64 c, .int .i64 d, .int .i64 f, .int .i64 g, .int .i64 h] 27) = w' :=
  first_new [a, b, c, d, f, g, h] 7 _ w rfl (by omega) rfl

theorem inverse_ok (n : Int) (h0 : 1 ≤ n) (h1 : n ≤ 65536) (w : World) :
    Calls Tryz.prog 12 #[.int .i64 n] w fun e w' => e = .returned (.tuple #[.int .i64 (invT n), .int .i64 0]) ∧ Below w.heap.size w w' := by
  have hn : (n == 0) = false := by simp; omega
  have h2 : rangeE n 0 65536 = 0 := (rangeE_zero _ _ _).2 ⟨by omega, h1⟩
  have C : Hid (∀ W, Calls Tryz.prog 36 #[.int .i64 n] W fun e w' => e = .returned (.int .i64 0) ∧ W = w') := fun W => by rw [← h2]; exact checkNumber_any n W
  clear h2
  have W0 : Hid (∀ W, Calls Tryz.prog 28 #[.bool false, .int .i64 11] W fun e w' => e = .returned (.int .i64 0) ∧ W = w') := fun W => when_any false 11 W
  have hf : firstE [0, 0] = 0 := rfl
  go_enter Tryz.func12, Tryz.ntmps12
  go_wp2_with (first
    | (go_at_call 36; refine (C.out _).mono ?_; rintro e w' ⟨rfl, rfl⟩)
    | (go_at_call 28; refine (W0.out _).mono ?_; rintro e w' ⟨rfl, rfl⟩)
    | (go_at_call 26; refine (first2 0 0 w).mono ?_; rintro e w' ⟨rfl, rfl⟩)
    | (go_at_call 37; refine (inverseOf_any n (by omega) h1 _).mono ?_; rintro e w' ⟨rfl, rfl⟩))
  go_ret2
  exact ⟨rfl, (Below.refl _ _).alloc (Nat.le_refl _) _⟩

end Go.Proofs.YtkemoffagdilgaaGreatDoor
