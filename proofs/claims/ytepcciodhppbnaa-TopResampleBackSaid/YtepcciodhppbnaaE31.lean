import Derived.Test.YtepcciodhppbnaaE9

namespace Go.Proofs.Ytepcciodhppbnaa
open Go.RowKit

set_option maxRecDepth 100000 in
set_option maxHeartbeats 1000000 in
theorem bGcd_any (n d : Int) (w : World) (hn : -1000000000000000000 ≤ n ∧ n ≤ 1000000000000000000) (hd : -1000000000000000000 ≤ d ∧ d ≤ 1000000000000000000) :
    Calls Try.prog 84 #[.int .i64 n, .int .i64 d] w fun e w' => e = .returned (.int .i64 (Int.gcd n d : Nat)) ∧ Below w.heap.size w w' := by
  obtain ⟨G, hG⟩ : ∃ G, Int.gcd n d = G := ⟨_, rfl⟩
  have HG := Lib.hid hG
  rw [hG]
  clear hG
  go_enter Try.func84, Try.ntmps84
  go_wp2
  go_loopw [0, 1] (fun p q wr => ∃ a b : Int, p = .int .i64 a ∧ q = .int .i64 b ∧ (-1000000000000000000 ≤ a ∧ a ≤ 1000000000000000000) ∧ (-1000000000000000000 ≤ b ∧ b ≤ 1000000000000000000) ∧ Hid (Int.gcd a b = G) ∧ Hid (∃ j, wr = w.drewN j)) (fun _ q _ => (intOf q).natAbs)
  case atStart => exact ⟨n, d, rfl, rfl, hn, hd, HG, 0, rfl⟩
  case round =>
    obtain ⟨a, b, rfl, rfl, hab, hbb, HI, HJ⟩ := hrel
    by_cases h0 : b = 0
    · subst h0
      have hag : absF a = (G : Int) := by
        have := HI.out
        rw [Int.gcd_zero_right] at this
        unfold absF
        split <;> omega
      have CS := Lib.hid (fun w => bsize_any a w (by omega))
      rw [hag] at CS
      have HB : Hid (Below w.heap.size w wr) := by
        obtain ⟨j, hj⟩ := HJ.out
        show Below _ _ _
        rw [hj]; exact belowDrewN (Below.refl _ _) j
      clear hag HJ
      go_wp2_with (go_at_call 26; refine (CS.out _).mono ?_; rintro e w' ⟨rfl, rfl⟩)
      go_ret
      exact ⟨rfl, HB.out⟩
    · have h1 : (b == 0) = false := by rw [beq_eq_false_iff_ne]; exact h0
      have h2 : (b != 0) = true := by rw [bne_iff_ne]; exact h0
      have hlt := tmod_lt a b h0
      have HS := Lib.hid (gcd_step a b)
      have hwr : IntKind.i64.wrap (a.tmod b) = a.tmod b := IntWalk.i64_in _ (by omega)
      obtain ⟨r, hr⟩ : ∃ r, a.tmod b = r := ⟨_, rfl⟩
      rw [hr] at hlt HS hwr
      have hrb : -1000000000000000000 ≤ r ∧ r ≤ 1000000000000000000 := by omega
      go_wp2
      go_quiet (fail)
      go_wp2
      go_roundw
      case rel =>
        refine ⟨b, r, rfl, by first | rfl | (rw [hr]), by omega, by omega, ?_, ?_⟩
        · show _ = _; rw [HS.out, HI.out]
        · obtain ⟨j, hj⟩ := HJ.out
          show ∃ _, _ = _
          rw [hj]; exact ⟨_, World.drewN_drewN _ _ _⟩
      case measure => simp only [intOf]; omega

end Go.Proofs.Ytepcciodhppbnaa
