import Derived.Test.YtepcciodhppbnaaE8

namespace Go.Proofs.Ytepcciodhppbnaa
open Go.RowKit

theorem gcd_step (a b : Int) : Int.gcd b (a.tmod b) = Int.gcd a b := by
  unfold Int.gcd
  rw [Int.natAbs_tmod, Nat.gcd_comm a.natAbs, Nat.gcd_rec b.natAbs a.natAbs, Nat.gcd_comm]
theorem tmod_lt (a b : Int) (hb : b ≠ 0) : (a.tmod b).natAbs < b.natAbs := by
  rw [Int.natAbs_tmod]; exact Nat.mod_lt _ (by omega)
/-- The parts of a fraction in lowest terms. -/
def frN (n d : Int) : Int := n.tdiv (Int.gcd n d : Nat)
def frD (n d : Int) : Int := d.tdiv (Int.gcd n d : Nat)
theorem gcd_abs (n d : Int) : Int.gcd d (absF n) = Int.gcd n d := by
  unfold absF
  split
  · rw [Int.gcd_neg, Int.gcd_comm]
  · rw [Int.gcd_comm]
theorem tdiv_bd (n : Int) (g : Int) (h : -1000000000000000000 ≤ n ∧ n ≤ 1000000000000000000) : -1000000000000000000 ≤ n.tdiv g ∧ n.tdiv g ≤ 1000000000000000000 := by
  have h1 := Int.natAbs_tdiv_le_natAbs n g
  omega

set_option maxRecDepth 100000 in
set_option maxHeartbeats 1000000 in
theorem fractionOf_any (n d : Int) (w : World) (hn : -1000000000000000000 ≤ n ∧ n ≤ 1000000000000000000) (hd : 0 < d ∧ d ≤ 1000000000000000000) :
    Calls Try.prog 81 #[.int .i64 n, .int .i64 d] w fun e w' => e = .returned (.agg #[.int .i64 (frN n d), .int .i64 (frD n d)]) ∧ Below w.heap.size w w' := by
  have ha := absF_bd n 1000000000000000000 hn
  have CS := Lib.hid (fun w => rsize_any n w (by omega))
  have HG := Lib.hid (gcd_abs n d)
  have HN : Hid (frN n d = n.tdiv (Int.gcd n d : Nat)) := rfl
  have HD : Hid (frD n d = d.tdiv (Int.gcd n d : Nat)) := rfl
  have HPOS : Hid (0 < Int.gcd n d) := Int.gcd_pos_of_ne_zero_right _ (by omega)
  obtain ⟨r, hr⟩ : ∃ r, absF n = r := ⟨_, rfl⟩
  obtain ⟨G, hG⟩ : ∃ G, Int.gcd n d = G := ⟨_, rfl⟩
  rw [hr] at ha CS HG
  rw [hG] at HG HN HD HPOS
  clear hr hG
  go_enter Try.func81, Try.ntmps81
  go_wp2_with (go_at_call 76; refine (CS.out _).mono ?_; rintro e w' ⟨rfl, rfl⟩)
  obtain ⟨W, hW⟩ : ∃ W, w.alloc (.cells #[.int .i64 0, .int .i64 0] 57) = W := ⟨_, rfl⟩
  have KW : Hid (Bk W w.heap.size 57 #[.int .i64 0, .int .i64 0]) := by show Bk _ _ _ _; rw [← hW]; exact Bk.new _ _ _
  have BW : Hid (Below w.heap.size w W) := by show Below _ _ _; rw [← hW]; exact (Below.refl _ _).alloc (Nat.le_refl _) _
  have hsz : w.heap.size < W.heap.size := by rw [← hW]; simp
  rw [hW]
  clear hW
  go_loopw [5, 6] (fun p q wr => ∃ a b : Int, p = .int .i64 a ∧ q = .int .i64 b ∧ (-1000000000000000000 ≤ a ∧ a ≤ 1000000000000000000) ∧ (-1000000000000000000 ≤ b ∧ b ≤ 1000000000000000000) ∧ 0 < a ∧ 0 ≤ b ∧ Hid (Int.gcd a b = G) ∧ Hid (∃ j, wr = W.drewN j)) (fun _ q _ => (intOf q).natAbs)
  case atStart => exact ⟨d, r, rfl, rfl, by omega, by omega, hd.1, by omega, HG, 0, rfl⟩
  case round =>
    obtain ⟨a, b, rfl, rfl, hab, hbb, ha0, hb0, HI, HJ⟩ := hrel
    by_cases h0 : b = 0
    · subst h0
      obtain ⟨j, rfl⟩ := HJ.out
      have hag : a = (G : Int) := by
        have := HI.out
        rw [Int.gcd_zero_right] at this
        omega
      subst hag
      have hne : ((G : Int) == 0) = false := by rw [beq_eq_false_iff_ne]; omega
      have c0 : (W.drewN j).cell? ⟨w.heap.size, 0, none⟩ = some (.int .i64 0) := by rw [(KW.out.drewN j).cell]; rfl
      have c1 : (W.drewN j).cell? ⟨w.heap.size, 1, none⟩ = some (.int .i64 0) := by rw [(KW.out.drewN j).cell]; rfl
      have f0 : (W.drewN j).frozen? ⟨w.heap.size, 0, none⟩ = false := (KW.out.drewN j).frozen 0
      have f1 : (W.drewN j).frozen? ⟨w.heap.size, 1, none⟩ = false := (KW.out.drewN j).frozen 1
      have hq1 := tdiv_bd n G hn
      have hq2 := tdiv_bd d G (by omega)
      obtain ⟨x, hx⟩ : ∃ x, n.tdiv (G : Int) = x := ⟨_, rfl⟩
      obtain ⟨y, hy⟩ : ∃ y, d.tdiv (G : Int) = y := ⟨_, rfl⟩
      rw [hx] at HN
      rw [hy] at HD
      have HX := Lib.hid hx
      have HY := Lib.hid hy
      have BJ := Lib.hid (belowDrewN BW.out j)
      rw [hx] at hq1
      rw [hy] at hq2
      have hG0 : ¬ G = 0 := by have := HPOS.out; omega
      obtain ⟨W2, hW2⟩ : ∃ W2, W.drewN j = W2 := ⟨_, rfl⟩
      rw [hW2] at c0 c1 f0 f1 BJ ⊢
      clear hx hy hW2
      go_wp2
      go_region
      all_goals
        go_wp2
        refine bodyPost_ret (v := .agg #[.int .i64 (n.tdiv (G : Int)), .int .i64 (d / (G : Int))]) (by simp [results, Try.results81, go_sem, c0, c1, f0, f1]) rfl ⟨?_, ?_⟩
        · rw [HN.out, HD.out, ← HX.out, ← HY.out, Int.tdiv_eq_ediv_of_nonneg (a := d) (by omega)]
        · have := BJ.out
          go_grown
    · have h1 : (b == 0) = false := by rw [beq_eq_false_iff_ne]; exact h0
      have h2 : (b != 0) = true := by rw [bne_iff_ne]; exact h0
      have hlt := tmod_lt a b h0
      have HS := Lib.hid (gcd_step a b)
      have htm : a.tmod b = a % b := Int.tmod_eq_emod_of_nonneg (by omega)
      rw [htm] at hlt HS
      have hmb : 0 ≤ a % b ∧ a % b ≤ b := by have := Int.emod_nonneg a h0; omega
      clear htm h0
      go_wp2
      go_quiet (fail)
      go_wp2
      go_roundw
      case rel =>
        refine ⟨b, a % b, rfl, rfl, by omega, by omega, by omega, by omega, ?_, ?_⟩
        · show _ = _; rw [HS.out, HI.out]
        · obtain ⟨j, hj⟩ := HJ.out
          show ∃ _, _ = _
          rw [hj]; exact ⟨_, World.drewN_drewN _ _ _⟩
      case measure => simp only [intOf]; omega

end Go.Proofs.Ytepcciodhppbnaa
