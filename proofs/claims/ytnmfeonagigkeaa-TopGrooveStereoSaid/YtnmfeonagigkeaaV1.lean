import Derived.Test.YtnmfeonagigkeaaA2
import Derived.Test.YtnmfeonagigkeaaV0
namespace Go.Proofs.Ytnmfeonagigkeaa
open Go.RowKit

theorem within_any (n lo hi : Int) (w : World) :
    Calls Try.prog 21 #[.int .i64 n, .int .i64 lo, .int .i64 hi] w fun e w' => e = .returned (.bool (fromB lo hi [n])) ∧ w = w' := by
  by_cases h1 : lo ≤ n
  · go_enter Try.func21, Try.ntmps21
    go_wp2
    go_ret
    exact ⟨by simp [fromB, h1], rfl⟩
  · go_enter Try.func21, Try.ntmps21
    go_wp2
    go_ret
    exact ⟨by simp [fromB]; omega, rfl⟩

theorem rd_ownN {w : World} {base : Nat} {v : Value} {n : Nat} {xs : List Int} (h : w.ownsRow base 3 1 v n (xs.map (Value.int .i64))) :
    ∃ A c, v = .slice A n c ∧ n ≤ c ∧ RdI w A n xs ∧ (A = none → n = 0 ∧ c = 0) := by
  have h2 := h.2
  obtain ⟨A, c, rfl, hnc, hr⟩ := rd_of_own h
  refine ⟨A, c, rfl, hnc, hr, ?_⟩
  rintro rfl
  rcases h2 with ⟨e, h0⟩ | ⟨g, cap, cur, e, _⟩
  · injection e with _ e1 e2; exact ⟨e1, e2⟩
  · injection e with e; cases e

set_option maxHeartbeats 1000000 in
theorem refPosErr_any (A : Option Addr) (n c : Nat) (xs : List Int) (w : World) (hr : RdI w A n xs) (hn : n ≤ 9223372036854775806) :
    Calls Try.prog 9 #[.slice A n c] w fun e w' => e = .returned (.int .i64 (posE xs)) ∧ w = w' := by
  have HR := Lib.hid hr; clear hr
  have HE : Hid (posE xs = if 200 < n then 8 else if fromB (-1000000) 1000000 xs = true then 0 else 2) := by show _ = _; unfold posE; rw [HR.out.1]
  by_cases h1 : 200 < n
  · have h1I : (200 : Int) < (n : Int) := by omega
    go_enter Try.func9, Try.ntmps9
    go_wp2
    go_ret
    exact ⟨by rw [HE.out, if_pos h1]; rfl, rfl⟩
  · have h1I : ¬ (200 : Int) < (n : Int) := by omega
    have HE2 : Hid (posE xs = if fromB (-1000000) 1000000 xs = true then 0 else 2) := by show _ = _; rw [HE.out, if_neg h1]
    clear h1 HE
    go_enter Try.func9, Try.ntmps9
    go_wp2
    go_loop [3] (fun i => ∃ k : Nat, k ≤ n ∧ i = .int .i64 k ∧ Hid (fromB (-1000000) 1000000 xs = fromB (-1000000) 1000000 (xs.drop k))) (fun i => n - (intOf i).toNat)
    case atStart => exact ⟨0, Nat.zero_le _, rfl, rfl⟩
    case round =>
      obtain ⟨k, hk, rfl, HF⟩ := hrel
      by_cases hlt : k < n
      · obtain ⟨ad, ha, _, hc⟩ := HR.out.2 (by omega)
        have hck := hc k hlt
        clear hc
        subst ha
        obtain ⟨x, hx⟩ : ∃ x, xs.getD k 0 = x := ⟨_, rfl⟩
        have hs := fromB_step (-1000000) 1000000 xs k (by have := HR.out.1; omega)
        rw [hx] at hck hs
        have hs2 : fromB (-1000000) 1000000 (xs.drop k) = (fromB (-1000000) 1000000 [x] && fromB (-1000000) 1000000 (xs.drop (k + 1))) := by rw [hs]; simp [fromB]
        obtain ⟨t, ht⟩ : ∃ t, fromB (-1000000) 1000000 [x] = t := ⟨_, rfl⟩
        rw [ht] at hs2
        have C := Lib.hid (within_any x (-1000000) 1000000 w)
        rw [ht] at C
        have HS := Lib.hid hs2; clear hs hs2 hx ht
        have hkI : (k : Int) < (n : Int) := by omega
        cases t
        · go_wp2_with (go_at_call 21; refine C.out.mono ?_; rintro e w' ⟨rfl, rfl⟩)
          go_ret
          exact ⟨by rw [HE2.out, HF.out, HS.out]; rfl, rfl⟩
        · go_wp2_with (go_at_call 21; refine C.out.mono ?_; rintro e w' ⟨rfl, rfl⟩)
          go_round
          case rel => exact ⟨k + 1, by omega, by go_num, by show _ = _; rw [HF.out, HS.out]; rfl⟩
          case measure => simp [intOf]; omega
      · obtain rfl : n = k := by omega
        go_wp2
        go_ret
        exact ⟨by rw [HE2.out, HF.out, List.drop_eq_nil_of_le (by have := HR.out.1; omega)]; rfl, rfl⟩

/-- The error of positions of which there is at least one. -/
def turnErr (xs : List Int) : Int := if posE xs = 0 then (if xs.length = 0 then 10 else 0) else posE xs
theorem checkTurn_any (A : Option Addr) (n c : Nat) (xs : List Int) (w : World) (hr : RdI w A n xs) (hn : n ≤ 9223372036854775806) :
    Calls Try.prog 22 #[.slice A n c] w fun e w' => e = .returned (.int .i64 (turnErr xs)) ∧ w = w' := by
  have C := Lib.hid (checkPositions_any A n c xs w hr hn)
  have HE : Hid (turnErr xs = if posE xs = 0 then (if n = 0 then 10 else 0) else posE xs) := by show _ = _; unfold turnErr; rw [hr.1]
  obtain ⟨E, hE⟩ : ∃ E, posE xs = E := ⟨_, rfl⟩
  have HE2 : Hid (turnErr xs = if E = 0 then (if n = 0 then 10 else 0) else E) := by show _ = _; rw [HE.out, hE]
  rw [hE] at C
  clear hE hr HE
  by_cases h0 : E = 0
  · subst h0
    by_cases hn0 : n = 0
    · subst hn0
      go_enter Try.func22, Try.ntmps22
      go_wp2_with (go_at_call 30; refine C.out.mono ?_; rintro e w' ⟨rfl, rfl⟩)
      go_ret
      exact ⟨by rw [HE2.out]; rfl, rfl⟩
    · have h1 : ((n : Int) == 0) = false := by rw [beq_eq_false_iff_ne]; omega
      go_enter Try.func22, Try.ntmps22
      go_wp2_with (go_at_call 30; refine C.out.mono ?_; rintro e w' ⟨rfl, rfl⟩)
      go_ret
      exact ⟨by rw [HE2.out]; simp [hn0], rfl⟩
  · have h1 : (E == 0) = false := by rw [beq_eq_false_iff_ne]; exact h0
    go_enter Try.func22, Try.ntmps22
    go_wp2_with (go_at_call 30; refine C.out.mono ?_; rintro e w' ⟨rfl, rfl⟩)
    go_ret
    exact ⟨by first | (rw [HE2.out, if_neg h0]; rfl) | (rw [HE2.out]; simp [h0]), rfl⟩

end Go.Proofs.Ytnmfeonagigkeaa
