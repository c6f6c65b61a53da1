import Derived.Test.YtdfaeoamighcgaaDoorT0
namespace Go.Proofs.YtdfaeoamighcgaaDoor
open Go.RowKit

set_option maxRecDepth 100000 in
set_option maxHeartbeats 2000000 in
theorem refTurnsErr_any (A : Option Addr) (n c : Nat) (rows : List (List Int)) (w : World) (hr : RdGN w A n rows) (hn : n ≤ 9223372036854775806) :
    Calls Tryd.prog 72 #[.slice A n c] w fun e w' => e = .returned (.int .i64 (turnsE rows)) ∧ w = w' := by
  have HR := Lib.hid hr; clear hr
  have HE0 : Hid (turnsE rows = if 20 < n then 8 else turnsE1 rows) := by show _ = _; unfold turnsE; rw [HR.out.1]
  by_cases h1 : 20 < n
  · have h1I : (20 : Int) < (n : Int) := by omega
    go_enter Tryd.func72, Tryd.ntmps72
    go_wp2
    go_ret
    exact ⟨by rw [HE0.out, if_pos h1]; rfl, rfl⟩
  · have h1I : ¬ (20 : Int) < (n : Int) := by omega
    have HE2 : Hid (turnsE rows = turnsE1 rows) := by show _ = _; rw [HE0.out, if_neg h1]
    clear h1 HE0
    go_enter Tryd.func72, Tryd.ntmps72
    go_wp2
    go_loop [3] (fun i => ∃ k : Nat, k ≤ n ∧ i = .int .i64 k ∧ Hid (turnsE1 rows = turnsE1 (rows.drop k))) (fun i => n - (intOf i).toNat)
    case atStart => exact ⟨0, Nat.zero_le _, rfl, rfl⟩
    case round =>
      obtain ⟨k, hk, rfl, HE⟩ := hrel
      by_cases hlt : k < n
      · obtain ⟨ad, ha, _, hc⟩ := HR.out.2 (by omega)
        obtain ⟨B, m, c', hck, hrow, hm, _⟩ := hc k hlt
        clear hc
        subst ha
        obtain ⟨x, hx⟩ : ∃ x, rows.getD k [] = x := ⟨_, rfl⟩
        have hs := turnsE1_step rows k (by have := HR.out.1; omega)
        rw [hx] at hrow hs
        have hxm : x.length = m := hrow.1
        have C := Lib.hid (refPosErr_any B m c' x w hrow hm)
        have hte : turnErr x = if posE x = 0 then (if m = 0 then 10 else 0) else posE x := by unfold turnErr; rw [hxm]
        clear hrow hx hxm
        obtain ⟨t, ht⟩ : ∃ t, posE x = t := ⟨_, rfl⟩
        rw [ht] at C hte
        rw [hte] at hs
        have HS := Lib.hid hs; clear hs ht hte
        have hkI : (k : Int) < (n : Int) := by omega
        by_cases h0 : t = 0
        · subst h0
          by_cases hm0 : m = 0
          · subst hm0
            go_wp2_with (go_at_call 64; refine C.out.mono ?_; rintro e w' ⟨rfl, rfl⟩)
            go_ret
            exact ⟨by rw [HE2.out, HE.out, HS.out]; rfl, rfl⟩
          · have hmb : ((m : Int) == 0) = false := by rw [beq_eq_false_iff_ne]; omega
            go_wp2_with (go_at_call 64; refine C.out.mono ?_; rintro e w' ⟨rfl, rfl⟩)
            go_round
            case rel => exact ⟨k + 1, by omega, by go_num, by show _ = _; rw [HE.out, HS.out]; simp [hm0]⟩
            case measure => simp [intOf]; omega
        · have htb : (t != 0) = true := by rw [bne_iff_ne]; exact h0
          have HS2 : Hid (turnsE1 (rows.drop k) = t) := by show _ = _; rw [HS.out]; simp [h0]
          clear HS
          go_wp2_with (go_at_call 64; refine C.out.mono ?_; rintro e w' ⟨rfl, rfl⟩)
          go_ret
          exact ⟨by rw [HE2.out, HE.out, HS2.out]; rfl, rfl⟩
      · obtain rfl : n = k := by omega
        go_wp2
        go_ret
        exact ⟨by rw [HE2.out, HE.out, List.drop_eq_nil_of_le (by have := HR.out.1; omega)]; rfl, rfl⟩

end Go.Proofs.YtdfaeoamighcgaaDoor
