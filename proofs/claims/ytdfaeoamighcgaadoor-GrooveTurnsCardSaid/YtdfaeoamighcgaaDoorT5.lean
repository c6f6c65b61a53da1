import Derived.Test.YtdfaeoamighcgaaDoorT1
import Derived.Test.YtdfaeoamighcgaaDoorT2
import Derived.Test.YtdfaeoamighcgaaDoorT4
namespace Go.Proofs.YtdfaeoamighcgaaDoor
open Go.RowKit

set_option maxRecDepth 100000 in
set_option maxHeartbeats 4000000 in
theorem turns_many (A : Option Addr) (n c : Nat) (rows : List (List Int)) (limit : Int) (w : World) (hl : LaidSides w) (hr : RdGo w A n rows) (hn : ¬ n ≤ 22) :
    Calls Tryd.prog 14 #[.slice A n c, .int .i64 limit] w fun e w' => e = .returned (.bool true) ∧ Below w.heap.size w w' := by
  have HL := Lib.hid hl
  have HR := Lib.hid hr
  have HLN : Hid (rows.length = n) := hr.1
  clear hl hr
  have h22 : (22 : Int) < (n : Int) := by omega
  go_enter Tryd.func14, Tryd.ntmps14
  go_wp2_with fail
  refine (awake_any _ HL.out).mono ?_
  rintro e w1 ⟨rfl, hb1⟩
  have F1 := Lib.hid (HR.out.below hb1)
  have l1 := Lib.hid hb1
  clear HR HL hb1
  go_wp2
  go_ret
  exact ⟨rfl, l1.out⟩

set_option maxRecDepth 100000 in
set_option maxHeartbeats 4000000 in
theorem turns_long (A : Option Addr) (n c : Nat) (rows : List (List Int)) (limit : Int) (w : World) (hl : LaidSides w) (hr : RdGo w A n rows) (hn : n ≤ 22) (hm : ¬ ∀ j, j < n → (rows.getD j []).length ≤ 203) :
    Calls Tryd.prog 14 #[.slice A n c, .int .i64 limit] w fun e w' => e = .returned (.bool true) ∧ Below w.heap.size w w' := by
  have HL := Lib.hid hl
  have HR := Lib.hid hr
  have HLN : Hid (rows.length = n) := hr.1
  clear hl hr
  have h22 : ¬ (22 : Int) < (n : Int) := by omega
  have HM : Hid (True ∧ ¬ ∀ j, j < n → (rows.getD j []).length ≤ 203) := ⟨trivial, hm⟩
  clear hm
  go_enter Tryd.func14, Tryd.ntmps14
  go_wp2_with fail
  refine (awake_any _ HL.out).mono ?_
  rintro e w1 ⟨rfl, hb1⟩
  have F1 := Lib.hid (HR.out.below hb1)
  have l1 := Lib.hid hb1
  clear HR HL hb1
  go_wp2
  go_loop [5] (fun i => ∃ k : Nat, k ≤ n ∧ i = .int .i64 k ∧ Hid (∀ j, j < k → (rows.getD j []).length ≤ 203)) (fun i => n - (intOf i).toNat)
  case atStart => exact ⟨0, Nat.zero_le _, rfl, fun j hj => absurd hj (by omega)⟩
  case round =>
    obtain ⟨k, hk, rfl, HP⟩ := hrel
    by_cases hlt : k < n
    · obtain ⟨ad, ha, _, hc⟩ := F1.out.2 (by omega)
      obtain ⟨B, m, c', hck, hrow, _⟩ := hc k hlt
      have HX := Lib.hid hrow.1
      clear hc hrow
      subst ha
      have hkI : (k : Int) < (n : Int) := by omega
      by_cases hm2 : m ≤ 203
      · have C : Hid (∀ (W : World), Calls Tryd.prog 59 #[.slice B m c'] W fun e w' => e = .returned (.bool true) ∧ W = w') := fun W => by have h := long_any B m c' W; rw [decide_eq_true hm2] at h; exact h
        have HP2 : Hid (∀ j, j < k + 1 → (rows.getD j []).length ≤ 203) := fun j hj => by
          by_cases h : j < k
          · exact HP.out j h
          · obtain rfl : j = k := by omega
            rw [HX.out]; exact hm2
        clear hm2
        go_wp2_with fail
        refine (C.out _).mono ?_
        rintro e w' ⟨rfl, rfl⟩
        go_wp2
        go_round
        case rel => exact ⟨k + 1, by omega, by go_num, HP2.out⟩
        case measure => simp [intOf]; omega
      · have C : Hid (∀ (W : World), Calls Tryd.prog 59 #[.slice B m c'] W fun e w' => e = .returned (.bool false) ∧ W = w') := fun W => by have h := long_any B m c' W; rw [decide_eq_false hm2] at h; exact h
        clear hm2
        go_wp2_with fail
        refine (C.out _).mono ?_
        rintro e w' ⟨rfl, rfl⟩
        go_wp2
        go_ret
        exact ⟨rfl, l1.out⟩
    · obtain rfl : n = k := by omega
      exact absurd HP.out HM.out.2

end Go.Proofs.YtdfaeoamighcgaaDoor
