import Derived.Test.YtjjflbnopphciaaGreatDoorH3
namespace Go.Proofs.YtjjflbnopphciaaGreatDoor
open Go.RowKit

/-- All numbers are from lo to hi. -/
def fromB (lo hi : Int) (xs : List Int) : Bool := xs.all fun n => decide (lo ≤ n) && decide (n ≤ hi)
theorem fromB_step (lo hi : Int) (xs : List Int) (k : Nat) (hk : k < xs.length) :
    fromB lo hi (xs.drop k) = (decide (lo ≤ xs.getD k 0) && decide (xs.getD k 0 ≤ hi) && fromB lo hi (xs.drop (k + 1))) := by
  unfold fromB
  rw [List.drop_eq_getElem_cons hk]
  simp only [List.all_cons, List.getD_eq_getElem?_getD, List.getElem?_eq_getElem hk, Option.getD_some]

set_option maxHeartbeats 1000000 in
theorem areFrom_any (A : Option Addr) (n c : Nat) (xs : List Int) (lo hi : Int) (w : World) (hr : RdI w A n xs) (hn : n ≤ 9223372036854775806) :
    Calls Tryz.prog 45 #[.int .i64 lo, .int .i64 hi, .slice A n c] w fun e w' => e = .returned (.bool (fromB lo hi xs)) ∧ w = w' := by
  have HR := Lib.hid hr; clear hr
  go_enter Tryz.func45, Tryz.ntmps45
  go_wp2
  go_loop [11] (fun i => ∃ k : Nat, k ≤ n ∧ i = .int .i64 k ∧ Hid (fromB lo hi xs = fromB lo hi (xs.drop k))) (fun i => n - (intOf i).toNat)
  case atStart => exact ⟨0, Nat.zero_le _, rfl, rfl⟩
  case round =>
    obtain ⟨k, hk, rfl, HE⟩ := hrel
    by_cases hlt : k < n
    · obtain ⟨ad, ha, _, hc⟩ := HR.out.2 (by omega)
      have hck := hc k hlt
      clear hc
      subst ha
      obtain ⟨x, hx⟩ : ∃ x, xs.getD k 0 = x := ⟨_, rfl⟩
      have hs := fromB_step lo hi xs k (by have := HR.out.1; omega)
      rw [hx] at hck hs
      have HS := Lib.hid hs; clear hs hx
      have hkI : (k : Int) < (n : Int) := by omega
      by_cases h1 : lo ≤ x
      · by_cases h2 : x ≤ hi
        · go_wp2
          go_round
          case rel => exact ⟨k + 1, by omega, by go_num, by show _ = _; rw [HE.out, HS.out, decide_eq_true h1, decide_eq_true h2]; rfl⟩
          case measure => simp [intOf]; omega
        · go_wp2
          go_ret
          exact ⟨by rw [HE.out, HS.out, show decide (x ≤ hi) = false from decide_eq_false (by omega), Bool.and_false, Bool.false_and]; rfl, rfl⟩
      · go_wp2
        go_ret
        exact ⟨by rw [HE.out, HS.out, show decide (lo ≤ x) = false from decide_eq_false (by omega), Bool.false_and, Bool.false_and]; rfl, rfl⟩
    · obtain rfl : n = k := by omega
      go_wp2
      go_ret
      exact ⟨by rw [HE.out, List.drop_eq_nil_of_le (by have := HR.out.1; omega)]; rfl, rfl⟩

theorem areAtMost_any (A : Option Addr) (n c : Nat) (xs : List Int) (m : Int) (w : World) (hr : RdI w A n xs) (hn : n ≤ 9223372036854775806) (hm : 0 ≤ m ∧ m ≤ 9223372036854775807) :
    Calls Tryz.prog 60 #[.int .i64 m, .slice A n c] w fun e w' => e = .returned (.bool (fromB (-m) m xs)) ∧ w = w' := by
  have C := Lib.hid (areFrom_any A n c xs (-m) m w hr hn)
  clear hr
  have hneg : IntKind.i64.wrap (-m) = -m := IntWalk.i64_in _ (by omega)
  go_enter Tryz.func60, Tryz.ntmps60
  go_wp2_with (go_at_call 45; refine C.out.mono ?_; rintro e w' ⟨rfl, rfl⟩)
  go_ret
  exact ⟨rfl, rfl⟩

end Go.Proofs.YtjjflbnopphciaaGreatDoor
