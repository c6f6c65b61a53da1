import Derived.Test.YtccoflhoggpgoaaSxad
namespace Go.Proofs.Ytccoflhoggpgoaa
open Go.RowKit

open Go.Shelf

/-- The error of rules. -/
def rlE (hs : List Int) : Int := firstNZ [if hs.length = 0 then 10 else 0, if 10 < hs.length then 8 else 0, rngE 0 1 hs]
set_option maxRecDepth 100000 in
set_option maxHeartbeats 4000000 in
theorem CheckRules_any (A : Option Addr) (n c : Nat) (hs : List Int) (w : World) (hr : RdI w A n hs) (hn : n ≤ 1000000) :
    Calls Try.prog 53 #[.agg #[.slice A n c]] w fun e w' => e = .returned (.int .i64 (rlE hs)) ∧ Below w.heap.size w w' := by
  have hln := hr.1
  obtain ⟨E1, hE1⟩ : ∃ E : Int, (if hs.length = 0 then 10 else 0) = E := ⟨_, rfl⟩
  obtain ⟨E2, hE2⟩ : ∃ E : Int, (if 10 < hs.length then 8 else 0) = E := ⟨_, rfl⟩
  obtain ⟨E3, hE3⟩ : ∃ E : Int, rngE 0 1 hs = E := ⟨_, rfl⟩
  obtain ⟨V, hV⟩ : ∃ V, rlE hs = V := ⟨_, rfl⟩
  have HE : Hid (firstNZ [E1, E2, E3] = V) := by show _ = _; rw [← hE1, ← hE2, ← hE3, ← hV]; rfl
  have R0 := Lib.hid (OneB.start w 76 #[.slice A n c])
  have CE : Hid (∀ W, Below w.heap.size w W → Calls Try.prog 107 #[.slice A n c, .func (.func 108) #[] #[]] W fun e w' => e = .returned (.int .i64 E3) ∧ Below W.heap.size W w') := fun W hb => by rw [← hE3]; exact checkEachA_any A n c hs W (hr.below hb) (by omega)
  have W1 : Hid (∀ w, Calls Try.prog 99 #[.bool (decide ((n : Int) = 0)), .int .i64 10] w fun e w' => e = .returned (.int .i64 E1) ∧ w = w') := fun w => by
    refine (when_any (decide ((n : Int) = 0)) 10 w).mono ?_
    rintro e w' ⟨rfl, rfl⟩
    refine ⟨?_, rfl⟩
    rw [← hE1, hln]
    by_cases h : n = 0
    · rw [if_pos h, if_pos (decide_eq_true (by omega))]
    · rw [if_neg h, if_neg (by simp; omega)]
  have W2 : Hid (∀ w, Calls Try.prog 99 #[.bool (decide ((10 : Int) < (n : Int))), .int .i64 8] w fun e w' => e = .returned (.int .i64 E2) ∧ w = w') := fun w => by
    refine (when_any (decide ((10 : Int) < (n : Int))) 8 w).mono ?_
    rintro e w' ⟨rfl, rfl⟩
    refine ⟨?_, rfl⟩
    rw [← hE2, hln]
    by_cases h : 10 < n
    · rw [if_pos h, if_pos (decide_eq_true (by omega))]
    · rw [if_neg h, if_neg (by simp; omega)]
  rw [hV]
  obtain ⟨b1, hb1⟩ : ∃ b, decide ((n : Int) = 0) = b := ⟨_, rfl⟩
  obtain ⟨b2, hb2⟩ : ∃ b, decide ((10 : Int) < (n : Int)) = b := ⟨_, rfl⟩
  have hb1' : ((n : Int) == 0) = b1 := by rw [← hb1]; rfl
  rw [hb1] at W1
  rw [hb2] at W2
  clear hV hE1 hE2 hE3 hln hr
  go_enter Try.func53, Try.ntmps53
  go_wp2
  first | (go_region_held3 (fun w' : World => w'.cell? ⟨w.heap.size, 0, none⟩ = some (.slice A n c) ∧ OneB w w.heap.size 76 #[.slice A n c] w') ((refine (fun hI => ⟨(bk1 hI.k).1, hI⟩) ?_; repeat (first | with_reducible assumption | (go_split_ands; with_reducible assumption) | exact R0.out | with_reducible refine OneB.alloc ?_ _ | with_reducible refine OneB.drew ?_))) (first
    | (go_at_call 99; ((with_reducible refine (W1.out _).mono ?_)); rintro e w' ⟨rfl, rfl⟩)
    | (go_at_call 99; ((with_reducible refine (W2.out _).mono ?_)); rintro e w' ⟨rfl, rfl⟩)
    | (go_at_call 107; ((with_reducible refine (CE.out _ ?_).mono ?_)); (focus (exact OneB.b (by first | assumption | (go_split_ands; assumption)))); rintro e w3 ⟨rfl, hb3⟩; have hI3 := OneB.later hb3 (by first | assumption | (go_split_ands; assumption)); clear hb3)
    | (go_at_call 84; refine (firstError3 (E1 := E1) (E2 := E2) (E3 := E3) (F := V) HE.out _ _ ?_ ?_ ?_).mono ?_; (focus (simp [go_sem])); (focus (simp [go_sem])); (focus (simp [go_sem])); rintro e w' ⟨rfl, rfl⟩))) | fail
  all_goals
    go_wp2
    go_ret
    refine ⟨rfl, ?_⟩
    have hbw := hI3.b
    have hbz := hbw.size
    go_grown

end Go.Proofs.Ytccoflhoggpgoaa

namespace Go.Proofs.Ytccoflhoggpgoaa
open Go.RowKit

open Go.Shelf

theorem eqZ (a b c : Bool) (W : World) : (Op.equalIn 10000 77 (.agg #[.bool a, .bool b, .bool c]) (.agg #[.bool false, .bool false, .bool false])).run Try.prog W = .ok (!(a || b || c)) W := by
  cases a <;> cases b <;> cases c <;> kernel_rfl

end Go.Proofs.Ytccoflhoggpgoaa

