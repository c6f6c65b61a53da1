import Derived.Test.YtghpofhpkbgckaaE9
import Derived.Test.YtghpofhpkbgckaaE10
import Derived.Test.YtghpofhpkbgckaaE11

namespace Go.Proofs.Ytghpofhpkbgckaa
open Go.RowKit

set_option maxRecDepth 100000 in
set_option maxHeartbeats 1000000 in
theorem bGcd_any (n d : Int) (w : World) (hn : -1000000000000000000 ≤ n ∧ n ≤ 1000000000000000000) (hd : -1000000000000000000 ≤ d ∧ d ≤ 1000000000000000000) :
    Calls Try.prog 80 #[.int .i64 n, .int .i64 d] w fun e w' => e = .returned (.int .i64 (Int.gcd n d : Nat)) ∧ Below w.heap.size w w' := by
  obtain ⟨G, hG⟩ : ∃ G, Int.gcd n d = G := ⟨_, rfl⟩
  have HG := Lib.hid hG
  rw [hG]
  clear hG
  go_enter Try.func80, Try.ntmps80
  go_wp2
  go_loopw [0, 1] (fun p q wr => ∃ a b : Int, p = .int .i64 a ∧ q = .int .i64 b ∧ (-1000000000000000000 ≤ a ∧ a ≤ 1000000000000000000) ∧ (-1000000000000000000 ≤ b ∧ b ≤ 1000000000000000000) ∧ Hid (Int.gcd a b = G) ∧ Hid (∃ j, wr = w.drewN j)) (fun _ q _ => (intOf q).natAbs)
  case atStart => exact ⟨n, d, rfl, rfl, hn, hd, HG, 0, rfl⟩
  case round =>
    obtain ⟨a, b, rfl, rfl, hab, hbb, HI, HJ⟩ := hrel
    by_cases h0 : b = 0
    · subst h0
      have hag : absF a = (G : Int) := by
        have := HI.out
        rw [Int.gcd_zero_right] at this
        unfold absF
        split <;> omega
      have CS := Lib.hid (fun w => bsize_any a w (by omega))
      rw [hag] at CS
      have HB : Hid (Below w.heap.size w wr) := by
        obtain ⟨j, hj⟩ := HJ.out
        show Below _ _ _
        rw [hj]; exact belowDrewN (Below.refl _ _) j
      clear hag HJ
      go_wp2_with (go_at_call 38; refine (CS.out _).mono ?_; rintro e w' ⟨rfl, rfl⟩)
      go_ret
      exact ⟨rfl, HB.out⟩
    · have h1 : (b == 0) = false := by rw [beq_eq_false_iff_ne]; exact h0
      have h2 : (b != 0) = true := by rw [bne_iff_ne]; exact h0
      have hlt := tmod_lt a b h0
      have HS := Lib.hid (gcd_step a b)
      have hwr : IntKind.i64.wrap (a.tmod b) = a.tmod b := IntWalk.i64_in _ (by omega)
      obtain ⟨r, hr⟩ : ∃ r, a.tmod b = r := ⟨_, rfl⟩
      rw [hr] at hlt HS hwr
      have hrb : -1000000000000000000 ≤ r ∧ r ≤ 1000000000000000000 := by omega
      go_wp2
      go_quiet (fail)
      go_wp2
      go_roundw
      case rel =>
        refine ⟨b, r, rfl, by first | rfl | (rw [hr]), by omega, by omega, ?_, ?_⟩
        · show _ = _; rw [HS.out, HI.out]
        · obtain ⟨j, hj⟩ := HJ.out
          show ∃ _, _ = _
          rw [hj]; exact ⟨_, World.drewN_drewN _ _ _⟩
      case measure => simp only [intOf]; omega

end Go.Proofs.Ytghpofhpkbgckaa


namespace Go.Proofs.Ytghpofhpkbgckaa
open Go.RowKit

set_option maxRecDepth 100000 in
set_option maxHeartbeats 1000000 in
theorem bLowest_any (n d : Int) (w : World) (hn : -1000000000000000000 ≤ n ∧ n ≤ 1000000000000000000) (hd : 0 < d ∧ d ≤ 1000000000000000000) :
    Calls Try.prog 72 #[.int .i64 n, .int .i64 d] w fun e w' => e = .returned (.agg #[.int .i64 (frN n d), .int .i64 (frD n d)]) ∧ Below w.heap.size w w' := by
  have CG := Lib.hid (fun w => bGcd_any n d w hn (by omega))
  have HN : Hid (frN n d = n.tdiv (Int.gcd n d : Nat)) := rfl
  have HD : Hid (frD n d = d.tdiv (Int.gcd n d : Nat)) := rfl
  have hpos : 0 < Int.gcd n d := Int.gcd_pos_of_ne_zero_right _ (by omega)
  obtain ⟨G, hG⟩ : ∃ G, Int.gcd n d = G := ⟨_, rfl⟩
  rw [hG] at CG HN HD hpos
  clear hG
  have hne : ((G : Int) == 0) = false := by rw [beq_eq_false_iff_ne]; omega
  have hG0 : ¬ G = 0 := by omega
  have hq1 := tdiv_bd n G hn
  have hq2 := tdiv_bd d G (by omega)
  have KW := Lib.hid (Bk.new w 28 #[.int .i64 0, .int .i64 0])
  have BW := Lib.hid (below1 w (.cells #[.int .i64 0, .int .i64 0] 28))
  go_enter Try.func72, Try.ntmps72
  go_wp2_with fail
  refine (CG.out _).mono ?_
  rintro e w1 ⟨rfl, hb⟩
  have K1 := Lib.hid (KW.out.later hb)
  have B1 := Lib.hid (BW.out.trans (hb.mono BW.out.size))
  clear hb KW BW
  have c0 : w1.cell? ⟨w.heap.size, 0, none⟩ = some (.int .i64 0) := by rw [K1.out.cell]; rfl
  have c1 : w1.cell? ⟨w.heap.size, 1, none⟩ = some (.int .i64 0) := by rw [K1.out.cell]; rfl
  have f0 : w1.frozen? ⟨w.heap.size, 0, none⟩ = false := K1.out.frozen 0
  have f1 : w1.frozen? ⟨w.heap.size, 1, none⟩ = false := K1.out.frozen 1
  go_wp2
  go_region
  all_goals
    go_wp2
    refine bodyPost_ret (v := .agg #[.int .i64 (n.tdiv (G : Int)), .int .i64 (d.tdiv (G : Int))]) (by simp [results, Try.results72, go_sem, c0, c1, f0, f1]) rfl ⟨?_, ?_⟩
    · rw [HN.out, HD.out]
    · have := B1.out
      go_grown

end Go.Proofs.Ytghpofhpkbgckaa


namespace Go.Proofs.Ytghpofhpkbgckaa
open Go.RowKit

set_option maxRecDepth 100000 in
set_option maxHeartbeats 1000000 in
theorem refRemainder1_any (f : Int) (w : World) (h : 0 ≤ f ∧ f ≤ 63) :
    Calls Try.prog 26 #[.int .i64 1, .int .i64 f] w fun e w' => e = .returned (.agg #[.int .i64 (frN (f * (f - 64)) 8192), .int .i64 (frD (f * (f - 64)) 8192)]) ∧ Below w.heap.size w w' := by
  have hb := mulB (a := f) (b := f - 64) 64 64 (by omega) (by omega) (by omega) (by omega) 4096 (by omega)
  have h1 : IntKind.i64.wrap (f - 64) = f - 64 := IntWalk.i64_in _ (by omega)
  have h2 : IntKind.i64.wrap (f * (f - 64)) = f * (f - 64) := IntWalk.i64_in _ (by omega)
  have CL := Lib.hid (fun w => bLowest_any (f * (f - 64)) 8192 w (by omega) (by omega))
  have K0 := Lib.hid (Bk.new w 28 #[.int .i64 0, .int .i64 0])
  have B0 := Lib.hid (below1 w (.cells #[.int .i64 0, .int .i64 0] 28))
  obtain ⟨x, hx⟩ : ∃ x, f * (f - 64) = x := ⟨_, rfl⟩
  rw [hx] at h2 CL ⊢
  obtain ⟨p, hp⟩ : ∃ p, frN x 8192 = p := ⟨_, rfl⟩
  obtain ⟨q, hq⟩ : ∃ q, frD x 8192 = q := ⟨_, rfl⟩
  rw [hp, hq] at CL ⊢
  clear hp hq hb
  go_enter Try.func26, Try.ntmps26
  go_wp2_with fail
  refine (CL.out _).mono ?_
  rintro e w1 ⟨rfl, hb⟩
  have K1 := Lib.hid (K0.out.later hb)
  have B1 := Lib.hid (B0.out.trans (hb.mono B0.out.size))
  clear hb K0 B0
  have c0 : w1.cell? ⟨w.heap.size, 0, none⟩ = some (.int .i64 0) := by rw [K1.out.cell]; rfl
  have c1 : w1.cell? ⟨w.heap.size, 1, none⟩ = some (.int .i64 0) := by rw [K1.out.cell]; rfl
  have f0 : w1.frozen? ⟨w.heap.size, 0, none⟩ = false := K1.out.frozen 0
  have f1 : w1.frozen? ⟨w.heap.size, 1, none⟩ = false := K1.out.frozen 1
  go_wp2
  refine bodyPost_ret (v := .agg #[.int .i64 p, .int .i64 q]) (by simp [results, Try.results26, go_sem, c0, c1, f0, f1]) rfl ⟨rfl, ?_⟩
  have := B1.out
  go_grown
set_option maxRecDepth 100000 in
set_option maxHeartbeats 1000000 in
theorem refRemainder3_any (f : Int) (w : World) (h : 0 ≤ f ∧ f ≤ 63) :
    Calls Try.prog 26 #[.int .i64 3, .int .i64 f] w fun e w' => e = .returned (.agg #[.int .i64 (frN ((f + 64) * f * (f - 64) * (f - 128)) 402653184), .int .i64 (frD ((f + 64) * f * (f - 64) * (f - 128)) 402653184)]) ∧ Below w.heap.size w w' := by
  obtain ⟨a1, a2, b1, b2, c1, c2, d1, d2, d3⟩ := prods h
  have h1 : IntKind.i64.wrap (f - 64) = f - 64 := IntWalk.i64_in _ (by omega)
  have h3 : IntKind.i64.wrap (f - 128) = f - 128 := IntWalk.i64_in _ (by omega)
  have h4 : IntKind.i64.wrap (f + 64) = f + 64 := IntWalk.i64_in _ (by omega)
  have k7 := wrapOf _ d1 (by omega)
  have k8 := wrapOf _ d2 (by omega)
  have k9 := wrapOf _ d3 (by omega)
  have CL := Lib.hid (fun w => bLowest_any ((f + 64) * f * (f - 64) * (f - 128)) 402653184 w (by omega) (by omega))
  have K0 := Lib.hid (Bk.new w 28 #[.int .i64 0, .int .i64 0])
  have B0 := Lib.hid (below1 w (.cells #[.int .i64 0, .int .i64 0] 28))
  obtain ⟨x, hx⟩ : ∃ x, (f + 64) * f * (f - 64) * (f - 128) = x := ⟨_, rfl⟩
  rw [hx] at k9 CL ⊢
  obtain ⟨p, hp⟩ : ∃ p, frN x 402653184 = p := ⟨_, rfl⟩
  obtain ⟨q, hq⟩ : ∃ q, frD x 402653184 = q := ⟨_, rfl⟩
  rw [hp, hq] at CL ⊢
  clear hp hq a1 a2 b1 b2 c1 c2 d1 d2 d3
  go_enter Try.func26, Try.ntmps26
  go_wp2_with fail
  refine (CL.out _).mono ?_
  rintro e w1 ⟨rfl, hb⟩
  have K1 := Lib.hid (K0.out.later hb)
  have B1 := Lib.hid (B0.out.trans (hb.mono B0.out.size))
  clear hb K0 B0
  have c0 : w1.cell? ⟨w.heap.size, 0, none⟩ = some (.int .i64 0) := by rw [K1.out.cell]; rfl
  have c1 : w1.cell? ⟨w.heap.size, 1, none⟩ = some (.int .i64 0) := by rw [K1.out.cell]; rfl
  have f0 : w1.frozen? ⟨w.heap.size, 0, none⟩ = false := K1.out.frozen 0
  have f1 : w1.frozen? ⟨w.heap.size, 1, none⟩ = false := K1.out.frozen 1
  go_wp2
  refine bodyPost_ret (v := .agg #[.int .i64 p, .int .i64 q]) (by simp [results, Try.results26, go_sem, c0, c1, f0, f1]) rfl ⟨rfl, ?_⟩
  have := B1.out
  go_grown
theorem bWhole_any (n : Int) (w : World) :
    Calls Try.prog 70 #[.int .i64 n] w fun e w' => e = .returned (.agg #[.int .i64 n, .int .i64 1]) ∧ Below w.heap.size w w' := by
  go_enter Try.func70, Try.ntmps70
  go_wp2
  refine bodyPost_ret (v := .agg #[.int .i64 n, .int .i64 1]) (by simp [results, Try.results70, go_sem]) rfl ⟨rfl, by go_grown⟩

end Go.Proofs.Ytghpofhpkbgckaa


namespace Go.Proofs.Ytghpofhpkbgckaa
open Go.RowKit

def cmpF (a b c d : Int) : Int := if a * d < c * b then -1 else if c * b < a * d then 1 else 0
set_option maxRecDepth 100000 in
set_option maxHeartbeats 1000000 in
theorem bCmp_any (a b c d : Int) (w : World) (ha : -1000000000 ≤ a ∧ a ≤ 1000000000) (hb : -1000000000 ≤ b ∧ b ≤ 1000000000) (hc : -1000000000 ≤ c ∧ c ≤ 1000000000) (hd : -1000000000 ≤ d ∧ d ≤ 1000000000) :
    Calls Try.prog 71 #[.agg #[.int .i64 a, .int .i64 b], .agg #[.int .i64 c, .int .i64 d]] w fun e w' => e = .returned (.int .i64 (cmpF a b c d)) ∧ Below w.heap.size w w' := by
  have b1 := mulB (a := a) (b := d) 1000000000 1000000000 ha hd (by omega) (by omega) 1000000000000000000 (by omega)
  have b2 := mulB (a := c) (b := b) 1000000000 1000000000 hc hb (by omega) (by omega) 1000000000000000000 (by omega)
  have w1 : IntKind.i64.wrap (a * d) = a * d := IntWalk.i64_in _ (by omega)
  have w2 : IntKind.i64.wrap (c * b) = c * b := IntWalk.i64_in _ (by omega)
  have HV : Hid (cmpF a b c d = if a * d < c * b then -1 else if c * b < a * d then 1 else 0) := rfl
  obtain ⟨x, hx⟩ : ∃ x, a * d = x := ⟨_, rfl⟩
  obtain ⟨y, hy⟩ : ∃ y, c * b = y := ⟨_, rfl⟩
  rw [hx] at w1 HV
  rw [hy] at w2 HV
  obtain ⟨V, hV⟩ : ∃ V, cmpF a b c d = V := ⟨_, rfl⟩
  rw [hV] at HV ⊢
  clear hV b1 b2
  by_cases h1 : x < y
  · have hF := HV.out
    rw [if_pos h1] at hF
    subst hF
    clear HV
    go_enter Try.func71, Try.ntmps71
    go_wp2
    go_quiet (fail)
    go_wp2
    go_ret
    exact ⟨rfl, by (repeat (first | exact Below.refl _ _ | refine Below.drew ?_ | refine belowDrewN ?_ _ | refine Below.alloc ?_ (by first | (simp; done) | (simp; omega)) _))⟩
  · by_cases h2 : y < x
    · have hF := HV.out
      rw [if_neg h1, if_pos h2] at hF
      subst hF
      clear HV
      go_enter Try.func71, Try.ntmps71
      go_wp2
      go_quiet (fail)
      go_wp2
      go_ret
      exact ⟨rfl, by (repeat (first | exact Below.refl _ _ | refine Below.drew ?_ | refine belowDrewN ?_ _ | refine Below.alloc ?_ (by first | (simp; done) | (simp; omega)) _))⟩
    · have hF := HV.out
      rw [if_neg h1, if_neg h2] at hF
      subst hF
      clear HV
      go_enter Try.func71, Try.ntmps71
      go_wp2
      go_quiet (fail)
      go_wp2
      go_ret
      exact ⟨rfl, by (repeat (first | exact Below.refl _ _ | refine Below.drew ?_ | refine belowDrewN ?_ _ | refine Below.alloc ?_ (by first | (simp; done) | (simp; omega)) _))⟩

end Go.Proofs.Ytghpofhpkbgckaa


namespace Go.Proofs.Ytghpofhpkbgckaa
open Go.RowKit

def bst (d : Int) : Nat → Int × Int
  | 0 => (0, 1)
  | k + 1 => if 0 < cmpF (absF (frN (remF d k) (rdn d))) (frD (remF d k) (rdn d)) (bst d k).1 (bst d k).2 then (absF (frN (remF d k) (rdn d)), frD (remF d k) (rdn d)) else bst d k
theorem tdiv_small (n g B : Int) (h : -B ≤ n ∧ n ≤ B) : -B ≤ n.tdiv g ∧ n.tdiv g ≤ B := by
  have h1 := Int.natAbs_tdiv_le_natAbs n g
  omega

theorem bst_step1 (k : Nat) : bst 1 (k + 1) = if 0 < cmpF (absF (frN ((k : Int) * ((k : Int) - 64)) 8192)) (frD ((k : Int) * ((k : Int) - 64)) 8192) (bst 1 k).1 (bst 1 k).2 then (absF (frN ((k : Int) * ((k : Int) - 64)) 8192), frD ((k : Int) * ((k : Int) - 64)) 8192) else bst 1 k := by
  show (if 0 < cmpF (absF (frN (remF 1 k) (rdn 1))) (frD (remF 1 k) (rdn 1)) (bst 1 k).1 (bst 1 k).2 then (absF (frN (remF 1 k) (rdn 1)), frD (remF 1 k) (rdn 1)) else bst 1 k) = _
  have h1 : remF 1 k = (k : Int) * ((k : Int) - 64) := by simp [remF]
  have h2 : rdn 1 = 8192 := by simp [rdn]
  rw [h1, h2]
theorem rem_small1 (k : Nat) (hk : k < 64) : (-76800000 ≤ frN ((k : Int) * ((k : Int) - 64)) 8192 ∧ frN ((k : Int) * ((k : Int) - 64)) 8192 ≤ 76800000) ∧ (-402653184 ≤ frD ((k : Int) * ((k : Int) - 64)) 8192 ∧ frD ((k : Int) * ((k : Int) - 64)) 8192 ≤ 402653184) := by
  have h := rem_bd1 (f := (k : Int)) (by omega)
  exact ⟨tdiv_small _ _ _ h, tdiv_small _ _ _ (by omega)⟩
theorem bst_small1 : ∀ k : Nat, k ≤ 64 → (-76800000 ≤ (bst 1 k).1 ∧ (bst 1 k).1 ≤ 76800000) ∧ (-402653184 ≤ (bst 1 k).2 ∧ (bst 1 k).2 ≤ 402653184)
  | 0, _ => by simp [bst]
  | k + 1, h => by
    have h0 := bst_small1 k (by omega)
    have h1 := rem_small1 k (by omega)
    have h2 := absF_bd (frN ((k : Int) * ((k : Int) - 64)) 8192) 76800000 h1.1
    rw [bst_step1]
    split
    · exact ⟨⟨by have := h2.1; omega, h2.2⟩, h1.2⟩
    · exact h0
set_option maxRecDepth 100000 in
set_option maxHeartbeats 2000000 in
theorem refMaximum1_any (w : World) :
    Calls Try.prog 24 #[.int .i64 1] w fun e w' => e = .returned (.agg #[.int .i64 (bst 1 64).1, .int .i64 (bst 1 64).2]) ∧ Below w.heap.size w w' := by
  have K0 := Lib.hid (Bk.new w 28 #[.int .i64 0, .int .i64 0])
  have B0 := Lib.hid (below1 w (.cells #[.int .i64 0, .int .i64 0] 28))
  go_enter Try.func24, Try.ntmps24
  go_wp2_with fail
  refine (bWhole_any 0 _).mono ?_
  rintro e w1 ⟨rfl, hb⟩
  have KA := Lib.hid ((K0.out.later hb).alloc (.cells #[.int .i64 0, .int .i64 1] 28))
  have KB := Lib.hid (Bk.new w1 28 #[.int .i64 0, .int .i64 1])
  have B1 := Lib.hid (B0.out.trans (hb.mono B0.out.size))
  have BW := Lib.hid (B1.out.alloc B1.out.size (.cells #[.int .i64 0, .int .i64 1] 28))
  have hz1 : w.heap.size < w1.heap.size := (K0.out.later hb).lt
  clear hb K0 B0 B1
  go_wp2
  obtain ⟨W, hW⟩ : ∃ W, w1.alloc (.cells #[.int .i64 0, .int .i64 1] 28) = W := ⟨_, rfl⟩
  rw [hW] at KA KB BW ⊢
  clear hW
  obtain ⟨b3, hb3⟩ : ∃ b, w1.heap.size = b := ⟨_, rfl⟩
  rw [hb3] at KB hz1 ⊢
  clear hb3
  go_loopw [4] (fun i wr => ∃ k : Nat, k ≤ 64 ∧ i = .int .i64 k ∧ Hid (Bk wr w.heap.size 28 #[.int .i64 0, .int .i64 0]) ∧ Hid (Bk wr b3 28 #[.int .i64 (bst 1 k).1, .int .i64 (bst 1 k).2]) ∧ Hid (Below w.heap.size w wr)) (fun i _ => 64 - (intOf i).toNat)
  case atStart => exact ⟨0, by omega, rfl, KA, KB, BW⟩
  case round =>
    obtain ⟨k, hk, rfl, HA, HB, HW⟩ := hrel
    clear KA KB BW
    have hsm := bst_small1 k hk
    by_cases hlt : k < 64
    · have hkI : (k : Int) < 64 := by omega
      have hs5 := rem_small1 k hlt
      have HST := Lib.hid (bst_step1 k)
      have CR := Lib.hid (fun w => refRemainder1_any (k : Int) w (by omega))
      obtain ⟨p, hp⟩ : ∃ p, frN ((k : Int) * ((k : Int) - 64)) 8192 = p := ⟨_, rfl⟩
      obtain ⟨q, hq⟩ : ∃ q, frD ((k : Int) * ((k : Int) - 64)) 8192 = q := ⟨_, rfl⟩
      rw [hp, hq] at hs5 HST CR
      have hap := absF_bd p 76800000 hs5.1
      have CS := Lib.hid (fun w => bsize_any p w (by omega))
      obtain ⟨s, hs⟩ : ∃ s, absF p = s := ⟨_, rfl⟩
      rw [hs] at HST hap CS
      obtain ⟨⟨x, y⟩, hxy⟩ : ∃ z, bst 1 k = z := ⟨_, rfl⟩
      rw [hxy] at HST HB hsm
      dsimp only at HST HB hsm
      have CC := Lib.hid (fun w => bCmp_any s q x y w (by omega) (by omega) (by omega) (by omega))
      obtain ⟨cv, hcv⟩ : ∃ c, cmpF s q x y = c := ⟨_, rfl⟩
      rw [hcv] at HST CC
      clear hp hq hs hxy hcv
      go_wp2_with fail
      refine (CR.out _).mono ?_
      rintro e w5 ⟨rfl, hb⟩
      have HA5 := Lib.hid ((HA.out.later hb).alloc (.cells #[.int .i64 p, .int .i64 q] 28))
      have HB5 := Lib.hid ((HB.out.later hb).alloc (.cells #[.int .i64 p, .int .i64 q] 28))
      have K5 := Lib.hid (Bk.new w5 28 #[.int .i64 p, .int .i64 q])
      have W5 := Lib.hid (HW.out.trans (hb.mono HW.out.size))
      have V5 := Lib.hid (W5.out.alloc W5.out.size (.cells #[.int .i64 p, .int .i64 q] 28))
      have hz5 : b3 < w5.heap.size := (HB.out.later hb).lt
      clear hb HA HB HW W5
      go_wp2_with fail
      refine (CS.out _).mono ?_
      rintro e w' ⟨rfl, rfl⟩
      obtain ⟨W6, hW6⟩ : ∃ W, w5.alloc (.cells #[.int .i64 p, .int .i64 q] 28) = W := ⟨_, rfl⟩
      rw [hW6] at HA5 HB5 K5 V5 ⊢
      clear hW6
      obtain ⟨b5, hb5⟩ : ∃ b, w5.heap.size = b := ⟨_, rfl⟩
      rw [hb5] at K5 hz5 ⊢
      clear hb5
      have z0 : W6.cell? ⟨b5, 0, none⟩ = some (.int .i64 p) := by rw [K5.out.cell]; rfl
      have z1 : W6.cell? ⟨b5, 1, none⟩ = some (.int .i64 q) := by rw [K5.out.cell]; rfl
      have zf : W6.frozen? ⟨b5, 0, none⟩ = false := K5.out.frozen 0
      have K6 := Lib.hid (K5.out.set_ 0 (.int .i64 s))
      have HA6 := Lib.hid (HA5.out.far ⟨b5, 0, none⟩ (by show ¬ w.heap.size = b5; omega) (.int .i64 s))
      have HB6 := Lib.hid (HB5.out.far ⟨b5, 0, none⟩ (by show ¬ b3 = b5; omega) (.int .i64 s))
      have V6 := Lib.hid (V5.out.setCell (p := ⟨b5, 0, none⟩) (by show w.heap.size ≤ b5; omega) (.int .i64 s))
      clear HA5 HB5 V5
      have c50 : (W6.setCell ⟨b5, 0, none⟩ (.int .i64 s)).cell? ⟨b5, 0, none⟩ = some (.int .i64 s) := by rw [K6.out.cell]; rfl
      have c51 : (W6.setCell ⟨b5, 0, none⟩ (.int .i64 s)).cell? ⟨b5, 1, none⟩ = some (.int .i64 q) := by rw [K6.out.cell]; rfl
      have c30 : (W6.setCell ⟨b5, 0, none⟩ (.int .i64 s)).cell? ⟨b3, 0, none⟩ = some (.int .i64 x) := by rw [HB6.out.cell]; rfl
      have c31 : (W6.setCell ⟨b5, 0, none⟩ (.int .i64 s)).cell? ⟨b3, 1, none⟩ = some (.int .i64 y) := by rw [HB6.out.cell]; rfl
      go_wp2_with fail
      refine (CC.out _).mono ?_
      rintro e w7 ⟨rfl, hb⟩
      have HA7 := Lib.hid (HA6.out.later hb)
      have HB7 := Lib.hid (HB6.out.later hb)
      have K7 := Lib.hid (K6.out.later hb)
      have V7 := Lib.hid (V6.out.trans (hb.mono V6.out.size))
      clear hb HA6 HB6 K6 V6 c50 c51 c30 c31 z0 z1 zf
      obtain ⟨c50, c51⟩ : w7.cell? ⟨b5, 0, none⟩ = some (.int .i64 s) ∧ w7.cell? ⟨b5, 1, none⟩ = some (.int .i64 q) := ⟨by rw [K7.out.cell]; rfl, by rw [K7.out.cell]; rfl⟩
      obtain ⟨c30, c31⟩ : w7.cell? ⟨b3, 0, none⟩ = some (.int .i64 x) ∧ w7.cell? ⟨b3, 1, none⟩ = some (.int .i64 y) := ⟨by rw [HB7.out.cell]; rfl, by rw [HB7.out.cell]; rfl⟩
      have f30 : w7.frozen? ⟨b3, 0, none⟩ = false := HB7.out.frozen 0
      have f31 : w7.frozen? ⟨b3, 1, none⟩ = false := HB7.out.frozen 1
      by_cases hc : 0 < cv
      · have HS2 := Lib.hid HST.out
        rw [if_pos hc] at HS2
        go_wp2
        go_roundw
        case rel =>
          refine ⟨k + 1, by omega, by go_num, ?_, ?_, ?_⟩
          · exact (HA7.out.far ⟨b3, 0, none⟩ (by show ¬ w.heap.size = b3; omega) (.int .i64 s)).far ⟨b3, 1, none⟩ (by show ¬ w.heap.size = b3; omega) (.int .i64 q)
          · rw [HS2.out]
            exact (HB7.out.set_ 0 (.int .i64 s)).set_ 1 (.int .i64 q)
          · exact (V7.out.setCell (p := ⟨b3, 0, none⟩) (by show w.heap.size ≤ b3; omega) _).setCell (p := ⟨b3, 1, none⟩) (by show w.heap.size ≤ b3; omega) _
        case measure => simp [intOf]; omega
      · have HS2 := Lib.hid HST.out
        rw [if_neg hc] at HS2
        go_wp2
        go_roundw
        case rel =>
          refine ⟨k + 1, by omega, by go_num, HA7, ?_, V7⟩
          rw [HS2.out]
          exact HB7
        case measure => simp [intOf]; omega
    · obtain rfl : k = 64 := by omega
      have c0 : wr.cell? ⟨b3, 0, none⟩ = some (.int .i64 (bst 1 64).1) := by rw [HB.out.cell]; rfl
      have c1 : wr.cell? ⟨b3, 1, none⟩ = some (.int .i64 (bst 1 64).2) := by rw [HB.out.cell]; rfl
      have e0 : wr.cell? ⟨w.heap.size, 0, none⟩ = some (.int .i64 0) := by rw [HA.out.cell]; rfl
      have e1 : wr.cell? ⟨w.heap.size, 1, none⟩ = some (.int .i64 0) := by rw [HA.out.cell]; rfl
      have f0 : wr.frozen? ⟨w.heap.size, 0, none⟩ = false := HA.out.frozen 0
      have f1 : wr.frozen? ⟨w.heap.size, 1, none⟩ = false := HA.out.frozen 1
      obtain ⟨⟨x, y⟩, hxy⟩ : ∃ z, bst 1 64 = z := ⟨_, rfl⟩
      rw [hxy] at c0 c1
      have HXY := Lib.hid hxy
      clear hxy hsm
      go_wp2
      refine bodyPost_ret (v := .agg #[.int .i64 x, .int .i64 y]) (by simp [results, Try.results24, go_sem, e0, e1, f0, f1]) rfl ⟨by rw [HXY.out], ?_⟩
      have := HW.out
      go_grown

theorem bst_step3 (k : Nat) : bst 3 (k + 1) = if 0 < cmpF (absF (frN (((k : Int) + 64) * (k : Int) * ((k : Int) - 64) * ((k : Int) - 128)) 402653184)) (frD (((k : Int) + 64) * (k : Int) * ((k : Int) - 64) * ((k : Int) - 128)) 402653184) (bst 3 k).1 (bst 3 k).2 then (absF (frN (((k : Int) + 64) * (k : Int) * ((k : Int) - 64) * ((k : Int) - 128)) 402653184), frD (((k : Int) + 64) * (k : Int) * ((k : Int) - 64) * ((k : Int) - 128)) 402653184) else bst 3 k := by
  show (if 0 < cmpF (absF (frN (remF 3 k) (rdn 3))) (frD (remF 3 k) (rdn 3)) (bst 3 k).1 (bst 3 k).2 then (absF (frN (remF 3 k) (rdn 3)), frD (remF 3 k) (rdn 3)) else bst 3 k) = _
  have h1 : remF 3 k = ((k : Int) + 64) * (k : Int) * ((k : Int) - 64) * ((k : Int) - 128) := by simp [remF]
  have h2 : rdn 3 = 402653184 := by simp [rdn]
  rw [h1, h2]
theorem rem_small3 (k : Nat) (hk : k < 64) : (-76800000 ≤ frN (((k : Int) + 64) * (k : Int) * ((k : Int) - 64) * ((k : Int) - 128)) 402653184 ∧ frN (((k : Int) + 64) * (k : Int) * ((k : Int) - 64) * ((k : Int) - 128)) 402653184 ≤ 76800000) ∧ (-402653184 ≤ frD (((k : Int) + 64) * (k : Int) * ((k : Int) - 64) * ((k : Int) - 128)) 402653184 ∧ frD (((k : Int) + 64) * (k : Int) * ((k : Int) - 64) * ((k : Int) - 128)) 402653184 ≤ 402653184) := by
  have h := rem_bd3 (f := (k : Int)) (by omega)
  exact ⟨tdiv_small _ _ _ h, tdiv_small _ _ _ (by omega)⟩
theorem bst_small3 : ∀ k : Nat, k ≤ 64 → (-76800000 ≤ (bst 3 k).1 ∧ (bst 3 k).1 ≤ 76800000) ∧ (-402653184 ≤ (bst 3 k).2 ∧ (bst 3 k).2 ≤ 402653184)
  | 0, _ => by simp [bst]
  | k + 1, h => by
    have h0 := bst_small3 k (by omega)
    have h1 := rem_small3 k (by omega)
    have h2 := absF_bd (frN (((k : Int) + 64) * (k : Int) * ((k : Int) - 64) * ((k : Int) - 128)) 402653184) 76800000 h1.1
    rw [bst_step3]
    split
    · exact ⟨⟨by have := h2.1; omega, h2.2⟩, h1.2⟩
    · exact h0
set_option maxRecDepth 100000 in
set_option maxHeartbeats 2000000 in
theorem refMaximum3_any (w : World) :
    Calls Try.prog 24 #[.int .i64 3] w fun e w' => e = .returned (.agg #[.int .i64 (bst 3 64).1, .int .i64 (bst 3 64).2]) ∧ Below w.heap.size w w' := by
  have K0 := Lib.hid (Bk.new w 28 #[.int .i64 0, .int .i64 0])
  have B0 := Lib.hid (below1 w (.cells #[.int .i64 0, .int .i64 0] 28))
  go_enter Try.func24, Try.ntmps24
  go_wp2_with fail
  refine (bWhole_any 0 _).mono ?_
  rintro e w1 ⟨rfl, hb⟩
  have KA := Lib.hid ((K0.out.later hb).alloc (.cells #[.int .i64 0, .int .i64 1] 28))
  have KB := Lib.hid (Bk.new w1 28 #[.int .i64 0, .int .i64 1])
  have B1 := Lib.hid (B0.out.trans (hb.mono B0.out.size))
  have BW := Lib.hid (B1.out.alloc B1.out.size (.cells #[.int .i64 0, .int .i64 1] 28))
  have hz1 : w.heap.size < w1.heap.size := (K0.out.later hb).lt
  clear hb K0 B0 B1
  go_wp2
  obtain ⟨W, hW⟩ : ∃ W, w1.alloc (.cells #[.int .i64 0, .int .i64 1] 28) = W := ⟨_, rfl⟩
  rw [hW] at KA KB BW ⊢
  clear hW
  obtain ⟨b3, hb3⟩ : ∃ b, w1.heap.size = b := ⟨_, rfl⟩
  rw [hb3] at KB hz1 ⊢
  clear hb3
  go_loopw [4] (fun i wr => ∃ k : Nat, k ≤ 64 ∧ i = .int .i64 k ∧ Hid (Bk wr w.heap.size 28 #[.int .i64 0, .int .i64 0]) ∧ Hid (Bk wr b3 28 #[.int .i64 (bst 3 k).1, .int .i64 (bst 3 k).2]) ∧ Hid (Below w.heap.size w wr)) (fun i _ => 64 - (intOf i).toNat)
  case atStart => exact ⟨0, by omega, rfl, KA, KB, BW⟩
  case round =>
    obtain ⟨k, hk, rfl, HA, HB, HW⟩ := hrel
    clear KA KB BW
    have hsm := bst_small3 k hk
    by_cases hlt : k < 64
    · have hkI : (k : Int) < 64 := by omega
      have hs5 := rem_small3 k hlt
      have HST := Lib.hid (bst_step3 k)
      have CR := Lib.hid (fun w => refRemainder3_any (k : Int) w (by omega))
      obtain ⟨p, hp⟩ : ∃ p, frN (((k : Int) + 64) * (k : Int) * ((k : Int) - 64) * ((k : Int) - 128)) 402653184 = p := ⟨_, rfl⟩
      obtain ⟨q, hq⟩ : ∃ q, frD (((k : Int) + 64) * (k : Int) * ((k : Int) - 64) * ((k : Int) - 128)) 402653184 = q := ⟨_, rfl⟩
      rw [hp, hq] at hs5 HST CR
      have hap := absF_bd p 76800000 hs5.1
      have CS := Lib.hid (fun w => bsize_any p w (by omega))
      obtain ⟨s, hs⟩ : ∃ s, absF p = s := ⟨_, rfl⟩
      rw [hs] at HST hap CS
      obtain ⟨⟨x, y⟩, hxy⟩ : ∃ z, bst 3 k = z := ⟨_, rfl⟩
      rw [hxy] at HST HB hsm
      dsimp only at HST HB hsm
      have CC := Lib.hid (fun w => bCmp_any s q x y w (by omega) (by omega) (by omega) (by omega))
      obtain ⟨cv, hcv⟩ : ∃ c, cmpF s q x y = c := ⟨_, rfl⟩
      rw [hcv] at HST CC
      clear hp hq hs hxy hcv
      go_wp2_with fail
      refine (CR.out _).mono ?_
      rintro e w5 ⟨rfl, hb⟩
      have HA5 := Lib.hid ((HA.out.later hb).alloc (.cells #[.int .i64 p, .int .i64 q] 28))
      have HB5 := Lib.hid ((HB.out.later hb).alloc (.cells #[.int .i64 p, .int .i64 q] 28))
      have K5 := Lib.hid (Bk.new w5 28 #[.int .i64 p, .int .i64 q])
      have W5 := Lib.hid (HW.out.trans (hb.mono HW.out.size))
      have V5 := Lib.hid (W5.out.alloc W5.out.size (.cells #[.int .i64 p, .int .i64 q] 28))
      have hz5 : b3 < w5.heap.size := (HB.out.later hb).lt
      clear hb HA HB HW W5
      go_wp2_with fail
      refine (CS.out _).mono ?_
      rintro e w' ⟨rfl, rfl⟩
      obtain ⟨W6, hW6⟩ : ∃ W, w5.alloc (.cells #[.int .i64 p, .int .i64 q] 28) = W := ⟨_, rfl⟩
      rw [hW6] at HA5 HB5 K5 V5 ⊢
      clear hW6
      obtain ⟨b5, hb5⟩ : ∃ b, w5.heap.size = b := ⟨_, rfl⟩
      rw [hb5] at K5 hz5 ⊢
      clear hb5
      have z0 : W6.cell? ⟨b5, 0, none⟩ = some (.int .i64 p) := by rw [K5.out.cell]; rfl
      have z1 : W6.cell? ⟨b5, 1, none⟩ = some (.int .i64 q) := by rw [K5.out.cell]; rfl
      have zf : W6.frozen? ⟨b5, 0, none⟩ = false := K5.out.frozen 0
      have K6 := Lib.hid (K5.out.set_ 0 (.int .i64 s))
      have HA6 := Lib.hid (HA5.out.far ⟨b5, 0, none⟩ (by show ¬ w.heap.size = b5; omega) (.int .i64 s))
      have HB6 := Lib.hid (HB5.out.far ⟨b5, 0, none⟩ (by show ¬ b3 = b5; omega) (.int .i64 s))
      have V6 := Lib.hid (V5.out.setCell (p := ⟨b5, 0, none⟩) (by show w.heap.size ≤ b5; omega) (.int .i64 s))
      clear HA5 HB5 V5
      have c50 : (W6.setCell ⟨b5, 0, none⟩ (.int .i64 s)).cell? ⟨b5, 0, none⟩ = some (.int .i64 s) := by rw [K6.out.cell]; rfl
      have c51 : (W6.setCell ⟨b5, 0, none⟩ (.int .i64 s)).cell? ⟨b5, 1, none⟩ = some (.int .i64 q) := by rw [K6.out.cell]; rfl
      have c30 : (W6.setCell ⟨b5, 0, none⟩ (.int .i64 s)).cell? ⟨b3, 0, none⟩ = some (.int .i64 x) := by rw [HB6.out.cell]; rfl
      have c31 : (W6.setCell ⟨b5, 0, none⟩ (.int .i64 s)).cell? ⟨b3, 1, none⟩ = some (.int .i64 y) := by rw [HB6.out.cell]; rfl
      go_wp2_with fail
      refine (CC.out _).mono ?_
      rintro e w7 ⟨rfl, hb⟩
      have HA7 := Lib.hid (HA6.out.later hb)
      have HB7 := Lib.hid (HB6.out.later hb)
      have K7 := Lib.hid (K6.out.later hb)
      have V7 := Lib.hid (V6.out.trans (hb.mono V6.out.size))
      clear hb HA6 HB6 K6 V6 c50 c51 c30 c31 z0 z1 zf
      obtain ⟨c50, c51⟩ : w7.cell? ⟨b5, 0, none⟩ = some (.int .i64 s) ∧ w7.cell? ⟨b5, 1, none⟩ = some (.int .i64 q) := ⟨by rw [K7.out.cell]; rfl, by rw [K7.out.cell]; rfl⟩
      obtain ⟨c30, c31⟩ : w7.cell? ⟨b3, 0, none⟩ = some (.int .i64 x) ∧ w7.cell? ⟨b3, 1, none⟩ = some (.int .i64 y) := ⟨by rw [HB7.out.cell]; rfl, by rw [HB7.out.cell]; rfl⟩
      have f30 : w7.frozen? ⟨b3, 0, none⟩ = false := HB7.out.frozen 0
      have f31 : w7.frozen? ⟨b3, 1, none⟩ = false := HB7.out.frozen 1
      by_cases hc : 0 < cv
      · have HS2 := Lib.hid HST.out
        rw [if_pos hc] at HS2
        go_wp2
        go_roundw
        case rel =>
          refine ⟨k + 1, by omega, by go_num, ?_, ?_, ?_⟩
          · exact (HA7.out.far ⟨b3, 0, none⟩ (by show ¬ w.heap.size = b3; omega) (.int .i64 s)).far ⟨b3, 1, none⟩ (by show ¬ w.heap.size = b3; omega) (.int .i64 q)
          · rw [HS2.out]
            exact (HB7.out.set_ 0 (.int .i64 s)).set_ 1 (.int .i64 q)
          · exact (V7.out.setCell (p := ⟨b3, 0, none⟩) (by show w.heap.size ≤ b3; omega) _).setCell (p := ⟨b3, 1, none⟩) (by show w.heap.size ≤ b3; omega) _
        case measure => simp [intOf]; omega
      · have HS2 := Lib.hid HST.out
        rw [if_neg hc] at HS2
        go_wp2
        go_roundw
        case rel =>
          refine ⟨k + 1, by omega, by go_num, HA7, ?_, V7⟩
          rw [HS2.out]
          exact HB7
        case measure => simp [intOf]; omega
    · obtain rfl : k = 64 := by omega
      have c0 : wr.cell? ⟨b3, 0, none⟩ = some (.int .i64 (bst 3 64).1) := by rw [HB.out.cell]; rfl
      have c1 : wr.cell? ⟨b3, 1, none⟩ = some (.int .i64 (bst 3 64).2) := by rw [HB.out.cell]; rfl
      have e0 : wr.cell? ⟨w.heap.size, 0, none⟩ = some (.int .i64 0) := by rw [HA.out.cell]; rfl
      have e1 : wr.cell? ⟨w.heap.size, 1, none⟩ = some (.int .i64 0) := by rw [HA.out.cell]; rfl
      have f0 : wr.frozen? ⟨w.heap.size, 0, none⟩ = false := HA.out.frozen 0
      have f1 : wr.frozen? ⟨w.heap.size, 1, none⟩ = false := HA.out.frozen 1
      obtain ⟨⟨x, y⟩, hxy⟩ : ∃ z, bst 3 64 = z := ⟨_, rfl⟩
      rw [hxy] at c0 c1
      have HXY := Lib.hid hxy
      clear hxy hsm
      go_wp2
      refine bodyPost_ret (v := .agg #[.int .i64 x, .int .i64 y]) (by simp [results, Try.results24, go_sem, e0, e1, f0, f1]) rfl ⟨by rw [HXY.out], ?_⟩
      have := HW.out
      go_grown

end Go.Proofs.Ytghpofhpkbgckaa


namespace Go.Proofs.Ytghpofhpkbgckaa
open Go.RowKit

theorem bst_eq1 : bst 1 64 = (frN (mxR 1 64) 8192, frD (mxR 1 64) 8192) := by decide +kernel
theorem bst_eq3 : bst 3 64 = (frN (mxR 3 64) 402653184, frD (mxR 3 64) 402653184) := by decide +kernel

end Go.Proofs.Ytghpofhpkbgckaa

