import Derived.Test.YtccoflhoggpgoaaGtaa
import Derived.RangeFuncFrom

namespace Go.Proofs.Ytccoflhoggpgoaa
open Go.RowKit

theorem wS_step (t j : Nat) : wS t (j + 1) = ((wS t j).1 * ((t : Int) - j) / ((j : Int) + 1), (wS t j).2 + (wS t j).1) := rfl

set_option maxRecDepth 100000 in
set_option maxHeartbeats 1000000 in
theorem waysFrom_any (t r : Nat) (ht : t < 30) (hr : r ≤ t) (w : World) :
    Calls Try.prog 88 #[.int .i64 t, .int .i64 r] w fun e w' => e = .returned (.int .i64 (tW t r)) ∧ ∃ n, w' = w.drewN n := by
  have HV : Hid (tW t r = (wS t (t + 1 - r)).2) := rfl
  obtain ⟨V, hV⟩ : ∃ V, tW t r = V := ⟨_, rfl⟩
  rw [hV] at HV ⊢
  clear hV
  go_enter Try.func88, Try.ntmps88
  go_wp2
  go_loopw [5, 6, 7] (fun x y i wr => ∃ (j : Nat) (κ : Int), j ≤ t + 1 - r ∧ i = .int .i64 κ ∧ Hid (κ = (t : Int) - j) ∧ x = .int .i64 (wS t j).1 ∧ y = .int .i64 (wS t j).2 ∧ Hid (∃ n, wr = w.drewN n)) (fun _ _ i _ => ((intOf i) + 1).toNat)
  case atStart => exact ⟨0, t, by omega, rfl, by show _ = _; omega, rfl, rfl, 0, rfl⟩
  case round =>
    obtain ⟨j, κ, hj, rfl, HK, rfl, rfl, HJ⟩ := hrel
    obtain ⟨⟨hx0, hx1⟩, hy0, hy1⟩ := wS_bd t ht j (by omega)
    have hκ := HK.out
    by_cases hlt : j < t + 1 - r
    · have HS := Lib.hid (wS_step t j)
      have hrκ : (r : Int) ≤ κ := by omega
      have hκ0 : 0 ≤ κ ∧ κ ≤ 29 := by omega
      obtain ⟨x, hx⟩ : ∃ x, (wS t j).1 = x := ⟨_, rfl⟩
      obtain ⟨y, hy⟩ : ∃ y, (wS t j).2 = y := ⟨_, rfl⟩
      rw [hx] at hx0 hx1 HS ⊢
      rw [hy] at hy0 hy1 HS ⊢
      have hmul := mulB (a := x) (b := κ) 1000000000 29 (by omega) (by omega) (by omega) (by omega) 29000000000 (by omega)
      have hm0 : 0 ≤ x * κ := Int.mul_nonneg hx0 hκ0.1
      rw [← hκ] at HS
      have w1 : IntKind.i64.wrap (x * κ) = x * κ := IntWalk.i64_in _ (by omega)
      have w2 : IntKind.i64.wrap ((t : Int) - κ) = (t : Int) - κ := IntWalk.i64_in _ (by omega)
      have w3 : IntKind.i64.wrap ((t : Int) - κ + 1) = (t : Int) - κ + 1 := IntWalk.i64_in _ (by omega)
      have w4 : IntKind.i64.wrap (y + x) = y + x := IntWalk.i64_in _ (by omega)
      have w5 : IntKind.i64.wrap (κ - 1) = κ - 1 := IntWalk.i64_in _ (by omega)
      have HD : Hid ((t : Int) - κ + 1 = (j : Int) + 1) := by show _ = _; omega
      obtain ⟨D, hD⟩ : ∃ D, (t : Int) - κ + 1 = D := ⟨_, rfl⟩
      rw [hD] at w3 HD
      have hD1 : 0 < D ∧ D ≤ 30 := by omega
      have hD0 : (D == 0) = false := by rw [beq_eq_false_iff_ne]; omega
      obtain ⟨p, hp⟩ : ∃ p, x * κ = p := ⟨_, rfl⟩
      rw [hp] at w1 hmul hm0 HS
      have hq0 := Int.ediv_nonneg (a := p) (b := D) (by omega) (by omega)
      have hq1 := Int.ediv_le_self (a := p) D (by omega)
      have HQ : Hid (wrap64 ((wrap64 (x * κ)).tdiv D) = p / D) := by
        show _ = _
        rw [hp, IntWalk.wrap64_in p ⟨by omega, by omega⟩, Int.tdiv_eq_ediv_of_nonneg (by omega)]
        exact IntWalk.wrap64_in _ ⟨by omega, by omega⟩
      clear hq0 hq1
      rw [← HD.out] at HS
      clear hx hy hp hκ
      go_wp2
      try go_quiet (fail)
      go_wp2
      go_roundw
      case rel =>
        refine ⟨j + 1, κ - 1, by omega, by first | rfl | go_num, by show _ = _; have := HK.out; omega, ?_, ?_, ?_⟩
        · rw [HS.out]
          first | exact congrArg _ HQ.out | (show Value.int .i64 _ = Value.int .i64 _; rw [HQ.out])
        · rw [HS.out]
        · obtain ⟨n, hn⟩ := HJ.out
          show ∃ _, _ = _
          first | exact ⟨n, hn⟩ | (rw [hn]; exact ⟨_, World.drewN_drewN _ _ _⟩)
      case measure => simp only [intOf]; omega
    · obtain rfl : t + 1 - r = j := by omega
      have hrκ : ¬ (r : Int) ≤ κ := by omega
      clear hκ
      rw [← HV.out] at hy0 hy1 ⊢
      go_wp2
      go_ret
      exact ⟨rfl, HJ.out⟩

end Go.Proofs.Ytccoflhoggpgoaa


namespace Go.Proofs.Ytccoflhoggpgoaa
open Go.RowKit

theorem checkTrials_any (n : Int) (w : World) :
    Calls Try.prog 85 #[.int .i64 n] w fun e w' => e = .returned (.int .i64 (rngE 0 29 [n])) ∧ Below w.heap.size w w' := by
  go_enter Try.func85, Try.ntmps85
  go_wp2_with (first | (go_at_call 86; refine (from_any _ _ _).mono ?_; rintro e w' ⟨rfl, rfl⟩) | (go_at_call 125; refine (from1_any n 0 29 _ _ _ ?_ ?_).mono ?_; (focus (simp [go_sem])); (focus (simp [go_sem])); rintro e w' ⟨rfl, rfl⟩))
  go_ret
  exact ⟨rfl, below2 _ _ _⟩

/-- The error of trials and right answers, and the tail. -/
def tlE (t r : Int) : Int := firstNZ [rngE 0 29 [t], rngE 0 t [r]]
def tlN (t r : Int) : Int := if tlE t r = 0 then fN (tW t.toNat r.toNat) (p2 t.toNat) else 0
def tlD (t r : Int) : Int := if tlE t r = 0 then fD (tW t.toNat r.toNat) (p2 t.toNat) else 0
theorem tlE_zero {t r : Int} (h : tlE t r = 0) : (0 ≤ t ∧ t ≤ 29) ∧ 0 ≤ r ∧ r ≤ t :=
  ⟨rngE_zero (firstNZ_zero h (rngE 0 29 [t]) (by simp)), rngE_zero (firstNZ_zero h (rngE 0 t [r]) (by simp))⟩
theorem tlE_two (t r : Int) : tlE t r = 0 ∨ tlE t r = 2 := by
  unfold tlE
  rw [firstNZ2]
  rcases rngE_01 0 29 [t] with h | h <;> rcases rngE_01 0 t [r] with k | k <;> simp [h, k]
theorem tW_bd : ∀ t, t < 30 → ∀ r, r ≤ t → 1 ≤ tW t r ∧ tW t r ≤ p2 t := by decide +kernel
theorem shl_p2 (t : Nat) (ht : t < 30) : IntKind.i64.wrap (2 ^ t) = p2 t := by
  have h := p2_pow t (by omega)
  rw [← h.1]
  exact IntWalk.i64_in _ (by omega)

set_option maxRecDepth 100000 in
set_option maxHeartbeats 2000000 in
theorem TailOf_any (t r : Int) (w : World) :
    Calls Try.prog 16 #[.int .i64 t, .int .i64 r] w fun e w' => e = .returned (.tuple #[.agg #[.int .i64 (tlN t r), .int .i64 (tlD t r)], .int .i64 (tlE t r)]) ∧ Below w.heap.size w w' := by
  have HE : Hid (firstNZ [rngE 0 29 [t], rngE 0 t [r]] = tlE t r) := rfl
  have CT := Lib.hid (fun w => checkTrials_any t w)
  have HZ : Hid (tlE t r = 0 → ∃ a b : Nat, t = a ∧ r = b ∧ a < 30 ∧ b ≤ a ∧ tlN t r = fN (tW a b) (p2 a) ∧ tlD t r = fD (tW a b) (p2 a)) := by
    intro h
    obtain ⟨h1, h2⟩ := tlE_zero h
    exact ⟨t.toNat, r.toNat, by omega, by omega, by omega, by omega, by unfold tlN; rw [if_pos h], by unfold tlD; rw [if_pos h]⟩
  have HNZ : Hid (¬ tlE t r = 0 → tlN t r = 0 ∧ tlD t r = 0) := fun h => ⟨by unfold tlN; rw [if_neg h], by unfold tlD; rw [if_neg h]⟩
  obtain ⟨E, hE⟩ : ∃ E, tlE t r = E := ⟨_, rfl⟩
  obtain ⟨N, hN⟩ : ∃ N, tlN t r = N := ⟨_, rfl⟩
  obtain ⟨D, hD⟩ : ∃ D, tlD t r = D := ⟨_, rfl⟩
  rw [hE] at HE HZ HNZ ⊢
  rw [hN] at HZ HNZ ⊢
  rw [hD] at HZ HNZ ⊢
  obtain ⟨E1, hE1⟩ : ∃ E1, rngE 0 29 [t] = E1 := ⟨_, rfl⟩
  rw [hE1] at HE CT
  clear hE hN hD hE1
  have K0 := Lib.hid (Bk.new w 23 #[.int .i64 0, .int .i64 0])
  have B0 := Lib.hid (below1 w (.cells #[.int .i64 0, .int .i64 0] 23))
  go_enter Try.func16, Try.ntmps16
  go_wp2_with fail
  refine (CT.out _).mono ?_
  rintro e w1 ⟨rfl, hb⟩
  have K1 := Lib.hid (K0.out.later hb)
  have B1 := Lib.hid (B0.out.trans (hb.mono B0.out.size))
  clear hb K0 B0
  go_wp2_with fail
  refine (from_any _ _ _).mono ?_
  rintro e w' ⟨rfl, rfl⟩
  go_wp2_with fail
  refine (from1_any r 0 t _ _ _ ?_ ?_).mono ?_
  · simp [go_sem]
  · simp [go_sem]
  rintro e w' ⟨rfl, rfl⟩
  go_wp2_with fail
  refine (firstError2 (E1 := E1) (E2 := rngE 0 t [r]) (F := E) HE.out _ _ ?_ ?_).mono ?_
  · simp [go_sem]
  · simp [go_sem]
  rintro e w' ⟨rfl, rfl⟩
  obtain ⟨E2, hE2⟩ : ∃ E2, rngE 0 t [r] = E2 := ⟨_, rfl⟩
  have K2 := Lib.hid (((K1.out.alloc (.cells #[.int .i64 0] 3)).alloc (.cells #[.int .i64 t] 3)).alloc (.cells #[.int .i64 E1, .int .i64 E2] 25))
  have B2 := Lib.hid (((B1.out.alloc B1.out.size (.cells #[.int .i64 0] 3)).alloc (B1.out.alloc B1.out.size _).size (.cells #[.int .i64 t] 3)).alloc ((B1.out.alloc B1.out.size _).alloc (B1.out.alloc B1.out.size _).size _).size (.cells #[.int .i64 E1, .int .i64 E2] 25))
  rw [hE2]
  obtain ⟨W3, hW3⟩ : ∃ W3, ((w1.alloc (.cells #[.int .i64 0] 3)).alloc (.cells #[.int .i64 t] 3)).alloc (.cells #[.int .i64 E1, .int .i64 E2] 25) = W3 := ⟨_, rfl⟩
  rw [hW3] at K2 B2 ⊢
  clear hW3 hE2 K1 B1
  have hI : FrB w w.heap.size W3 := ⟨⟨0, 0, K2.out⟩, B2.out⟩
  by_cases h0 : E = 0
  · subst h0
    obtain ⟨a, b, rfl, rfl, ha, hb, hN, hD⟩ := HZ.out rfl
    have hw := tW_bd a ha b hb
    have hp := p2_pow a (by omega)
    have CW : Hid (∀ w, Calls Try.prog 88 #[.int .i64 a, .int .i64 b] w fun e w' => e = .returned (.int .i64 (tW a b)) ∧ Below w.heap.size w w') := fun w => (waysFrom_any a b ha hb w).mono (by rintro e w' ⟨h, n, rfl⟩; exact ⟨h, blw_drewN (Below.refl _ _) n⟩)
    have CF := Lib.hid (fun w => fractionOf_any (tW a b) (p2 a) w (by omega) (by omega) (by omega) (by omega))
    have hs := shl_p2 a ha
    have ha0 : ¬ (a : Int) < 0 := by omega
    rw [← hN, ← hD] at CF
    obtain ⟨x, hx⟩ : ∃ x, tW a b = x := ⟨_, rfl⟩
    rw [hx] at CW CF
    rw [← hs] at CF
    clear hw hp HE HZ HNZ CT hx hs hN hD K2 B2
    go_wp2
    go_region_held3 (fun w' : World => FrB w w.heap.size w') (first | assumption | exact FrB.drew (by assumption) | exact FrB.set (by assumption) (Nat.le_refl _) _ _) (first
        | (go_at_call 88; ((with_reducible refine (CW.out _).mono ?_)); rintro e w3 ⟨rfl, hb3⟩; have hI3 := FrB.later hb3 (by assumption); clear hb3)
        | (go_at_call 87; ((with_reducible refine (CF.out _).mono ?_)); rintro e w3 ⟨rfl, hb3⟩; have hI3 := FrB.later hb3 (by assumption); clear hb3; obtain ⟨ra, rb, kr⟩ := hI3.res; have kq := bk2 kr; obtain ⟨e0, e1, k0, k1⟩ := kq))
    go_wp2
    have hIF := FrB.drew (FrB.set hI3 (Nat.le_refl _) N D)
    refine bodyPost_ret (v := .tuple #[.agg #[.int .i64 N, .int .i64 D], .int .i64 0]) (by simp [results, Try.results16, go_sem, e0, e1, k0, k1]) rfl ⟨rfl, ?_⟩
    first | exact hIF.bel | exact (FrB.set hI3 (Nat.le_refl _) _ _).bel
  · have h1 : (E == 0) = false := by rw [beq_eq_false_iff_ne]; exact h0
    have h2 : (E != 0) = true := by rw [bne_iff_ne]; exact h0
    obtain ⟨hN, hD⟩ := HNZ.out h0
    obtain ⟨e0, e1, k0, k1⟩ := bk2 K2.out
    clear HE HZ HNZ CT h0
    go_wp2
    refine bodyPost_ret (v := .tuple #[.agg #[.int .i64 0, .int .i64 0], .int .i64 E]) (by simp [results, Try.results16, go_sem, e0, e1, k0, k1]) rfl ⟨by rw [hN, hD], ?_⟩
    exact (hI.set (Nat.le_refl _) 0 0).bel

end Go.Proofs.Ytccoflhoggpgoaa


namespace Go.Proofs.Ytccoflhoggpgoaa
open Go.RowKit

/-- The error of a level. -/
def lvE (n d : Int) : Int := firstNZ [if lowB n d = true then 0 else 3, rngE 0 d [n], if 1000000000 < d then 2 else 0]
theorem lvE_zero {n d : Int} (h : lvE n d = 0) : lowB n d = true ∧ (0 ≤ n ∧ n ≤ d) ∧ 0 < d ∧ d ≤ 1000000000 := by
  have h1 := firstNZ_zero h (if lowB n d = true then 0 else 3) (by simp)
  have h2 := rngE_zero (firstNZ_zero h (rngE 0 d [n]) (by simp))
  have h3 := firstNZ_zero h (if 1000000000 < d then 2 else 0) (by simp)
  have h4 : lowB n d = true := by
    cases hl : lowB n d
    · rw [hl] at h1; simp at h1
    · rfl
  refine ⟨h4, h2, ?_, ?_⟩
  · unfold lowB at h4; simp at h4; exact h4.1
  · by_cases h5 : 1000000000 < d
    · rw [if_pos h5] at h3; cases h3
    · omega

set_option maxRecDepth 100000 in
set_option maxHeartbeats 2000000 in
theorem checkLevel_any (n d : Int) (w : World) (hn : -9223372036854775808 ≤ n ∧ n ≤ 9223372036854775807) (hd : -9223372036854775808 ≤ d ∧ d ≤ 9223372036854775807) :
    Calls Try.prog 89 #[.agg #[.int .i64 n, .int .i64 d]] w fun e w' => e = .returned (.int .i64 (lvE n d)) ∧ Below w.heap.size w w' := by
  have HE : Hid (firstNZ [if lowB n d = true then 0 else 3, rngE 0 d [n], if 1000000000 < d then 2 else 0] = lvE n d) := rfl
  have CL := Lib.hid (fun w => isLowest_any n d hn.1 hn.2 hd.2 w)
  obtain ⟨E, hE⟩ : ∃ E, lvE n d = E := ⟨_, rfl⟩
  rw [hE] at HE ⊢
  clear hE
  obtain ⟨lb, hlb⟩ : ∃ b, lowB n d = b := ⟨_, rfl⟩
  rw [hlb] at HE CL
  clear hlb
  obtain ⟨E2, hE2⟩ : ∃ E, rngE 0 d [n] = E := ⟨_, rfl⟩
  have C1 := Lib.hid (fun a b w ha hb => from1_any n 0 d a b w ha hb)
  rw [hE2] at HE C1
  clear hE2
  have HW1 : Hid (∀ w, Calls Try.prog 99 #[.bool (!lb), .int .i64 3] w fun e w' => e = .returned (.int .i64 (if lb = true then 0 else 3)) ∧ w = w') := fun w => (when_any (!lb) 3 w).mono (by rintro e w' ⟨rfl, rfl⟩; cases lb <;> exact ⟨rfl, rfl⟩)
  obtain ⟨E1, hE1⟩ : ∃ E : Int, (if lb = true then 0 else 3) = E := ⟨_, rfl⟩
  rw [hE1] at HE HW1
  clear hE1
  have R0 := OneB.start w 23 #[.int .i64 n, .int .i64 d]
  obtain ⟨E3, hE3⟩ : ∃ E : Int, (if 1000000000 < d then 2 else 0) = E := ⟨_, rfl⟩
  have HW3 : Hid (∀ w, Calls Try.prog 99 #[.bool (decide (1000000000 < d)), .int .i64 2] w fun e w' => e = .returned (.int .i64 E3) ∧ w = w') := fun w => (when_any (decide (1000000000 < d)) 2 w).mono (by rintro e w' ⟨rfl, rfl⟩; rw [← hE3]; exact ⟨by simp, rfl⟩)
  rw [hE3] at HE
  clear hE3
  go_enter Try.func89, Try.ntmps89
  go_wp2
  go_region_held3 (fun w' : World => (w'.cell? ⟨w.heap.size, 0, none⟩ = some (.int .i64 n) ∧ w'.cell? ⟨w.heap.size, 1, none⟩ = some (.int .i64 d)) ∧ OneB w w.heap.size 23 #[.int .i64 n, .int .i64 d] w') ((refine (fun hI => ⟨bkf2 hI.k, hI⟩) ?_; repeat (first | assumption | (go_split_ands; assumption) | refine OneB.alloc ?_ _ | refine OneB.drew ?_))) (first
    | (go_at_call 127; ((with_reducible refine (CL.out _).mono ?_)); rintro e w3 ⟨rfl, hb3⟩; have hI3 := OneB.later hb3 (by first | assumption | (go_split_ands; assumption)); clear hb3)
    | (go_at_call 99; ((with_reducible refine (HW1.out _).mono ?_)); rintro e w' ⟨rfl, rfl⟩)
    | (go_at_call 99; ((with_reducible refine (HW3.out _).mono ?_)); rintro e w' ⟨rfl, rfl⟩)
    | (go_at_call 86; ((with_reducible refine (from_any _ _ _).mono ?_)); rintro e w' ⟨rfl, rfl⟩)
    | (go_at_call 125; refine (C1.out _ _ _ ?_ ?_).mono ?_; (focus (simp [go_sem])); (focus (simp [go_sem])); rintro e w' ⟨rfl, rfl⟩)
    | (go_at_call 84; refine (firstError3 (E1 := E1) (E2 := E2) (E3 := E3) (F := E) HE.out _ _ ?_ ?_ ?_).mono ?_; (focus (simp [go_sem])); (focus (simp [go_sem])); (focus (simp [go_sem])); rintro e w' ⟨rfl, rfl⟩))
  all_goals
    go_wp2
    go_ret
    refine ⟨rfl, ?_⟩
    have hbw := hI3.b
    have hbz := hbw.size
    go_grown

end Go.Proofs.Ytccoflhoggpgoaa


namespace Go.Proofs.Ytccoflhoggpgoaa
open Go.RowKit

/-- Whether a number of right answers has a tail of at most a level. -/
def mrB (t : Nat) (n d : Int) (r : Nat) : Bool := decide (tW t r * d ≤ n * p2 t)
/-- The least such number, and the error. -/
def mrE (t n d : Int) : Int := firstNZ [rngE 0 29 [t], lvE n d]
def mrR (t n d : Int) : Int × Int :=
  if mrE t n d = 0 then (match (List.range (t.toNat + 1)).find? (mrB t.toNat n d) with | some r => ((r : Int), 0) | none => (0, 12)) else (0, mrE t n d)
theorem mrE_zero {t n d : Int} (h : mrE t n d = 0) : (0 ≤ t ∧ t ≤ 29) ∧ lvE n d = 0 :=
  ⟨rngE_zero (firstNZ_zero h (rngE 0 29 [t]) (by simp)), firstNZ_zero h (lvE n d) (by simp)⟩
theorem find_range_none {m : Nat} {p : Nat → Bool} (h : ∀ j, j < m → p j = false) : (List.range m).find? p = none := by
  rw [List.find?_eq_none]
  intro x hx
  rw [h x (by simpa using hx)]
  simp
theorem find_range_some {m k : Nat} {p : Nat → Bool} (hk : k < m) (h : ∀ j, j < k → p j = false) (h1 : p k = true) : (List.range m).find? p = some k := by
  rw [List.find?_range_eq_some]
  exact ⟨h1, by simpa using hk, fun j hj => by rw [h j hj]; rfl⟩

set_option maxRecDepth 100000 in
set_option maxHeartbeats 4000000 in
theorem MinimumRight_any (t n d : Int) (w : World) (hn : -9223372036854775808 ≤ n ∧ n ≤ 9223372036854775807) (hd : -9223372036854775808 ≤ d ∧ d ≤ 9223372036854775807) :
    Calls Try.prog 17 #[.int .i64 t, .agg #[.int .i64 n, .int .i64 d]] w fun e w' => e = .returned (.tuple #[.int .i64 (mrR t n d).1, .int .i64 (mrR t n d).2]) ∧ Below w.heap.size w w' := by
  have HE : Hid (firstNZ [rngE 0 29 [t], lvE n d] = mrE t n d) := rfl
  have CT := Lib.hid (fun w => checkTrials_any t w)
  have CL := Lib.hid (fun w => checkLevel_any n d w hn hd)
  have HOK : Hid (mrE t n d = 0 → (∃ a : Nat, t = a ∧ a < 30 ∧ mrR t n d = (match (List.range (a + 1)).find? (mrB a n d) with | some r => ((r : Int), 0) | none => (0, 12))) ∧ (0 ≤ n ∧ n ≤ d) ∧ 0 < d ∧ d ≤ 1000000000) := by
    intro h
    obtain ⟨h1, h2⟩ := mrE_zero h
    exact ⟨⟨t.toNat, by omega, by omega, by unfold mrR; rw [if_pos h]⟩, (lvE_zero h2).2⟩
  have HNO : Hid (¬ mrE t n d = 0 → mrR t n d = (0, mrE t n d)) := fun h => by unfold mrR; rw [if_neg h]
  obtain ⟨E, hE⟩ : ∃ E, mrE t n d = E := ⟨_, rfl⟩
  rw [hE] at HE HOK HNO
  obtain ⟨⟨V, X⟩, hR⟩ : ∃ R, mrR t n d = R := ⟨_, rfl⟩
  rw [hR] at HOK HNO ⊢
  dsimp only
  clear hE hR
  obtain ⟨E1, hE1⟩ : ∃ E, rngE 0 29 [t] = E := ⟨_, rfl⟩
  obtain ⟨E2, hE2⟩ : ∃ E, lvE n d = E := ⟨_, rfl⟩
  rw [hE1] at HE CT
  rw [hE2] at HE CL
  clear hE1 hE2
  have R0 := OneB.start w 23 #[.int .i64 n, .int .i64 d]
  go_enter Try.func17, Try.ntmps17
  go_wp2
  go_region_held3 (fun w' : World => (w'.cell? ⟨w.heap.size, 0, none⟩ = some (.int .i64 n) ∧ w'.cell? ⟨w.heap.size, 1, none⟩ = some (.int .i64 d)) ∧ OneB w w.heap.size 23 #[.int .i64 n, .int .i64 d] w') ((refine (fun hI => ⟨bkf2 hI.k, hI⟩) ?_; repeat (first | assumption | (go_split_ands; assumption) | refine OneB.alloc ?_ _ | refine OneB.drew ?_))) (first
    | (go_at_call 85; ((with_reducible refine (CT.out _).mono ?_)); rintro e w3 ⟨rfl, hb3⟩; have hI3 := OneB.later hb3 (by first | assumption | (go_split_ands; assumption)); clear hb3)
    | (go_at_call 89; ((with_reducible refine (CL.out _).mono ?_)); rintro e w4 ⟨rfl, hb4⟩; have hI4 := OneB.later hb4 (by first | assumption | (go_split_ands; assumption)); clear hb4)
    | (go_at_call 84; refine (firstError2 (E1 := E1) (E2 := E2) (F := E) HE.out _ _ ?_ ?_).mono ?_; (focus (simp [go_sem])); (focus (simp [go_sem])); rintro e w' ⟨rfl, rfl⟩))
  have HI2 := Lib.hid (OneB.alloc hI4 (.cells #[.int .i64 E1, .int .i64 E2] 25))
  obtain ⟨W2, hW2⟩ : ∃ W2, w4.alloc (.cells #[.int .i64 E1, .int .i64 E2] 25) = W2 := ⟨_, rfl⟩
  rw [hW2] at HI2 ⊢
  clear hW2 hI3 hI4 CT CL HE
  by_cases h0 : E = 0
  · subst h0
    obtain ⟨⟨a, rfl, ha, hR⟩, hn1, hd1⟩ := HOK.out rfl
    have HR := Lib.hid hR
    have hp := p2_pow a (by omega)
    have CW : Hid (∀ r, r ≤ a → ∀ w, Calls Try.prog 88 #[.int .i64 a, .int .i64 r] w fun e w' => e = .returned (.int .i64 (tW a r)) ∧ ∃ k, w' = w.drewN k) := fun r hr w => waysFrom_any a r ha hr w
    have HBD : Hid (∀ r, r ≤ a → 1 ≤ tW a r ∧ tW a r ≤ 536870912) := fun r hr => by
      have := tW_bd a ha r hr
      have h29 : p2 a ≤ 536870912 := (by decide +kernel : ∀ a, a < 30 → p2 a ≤ 536870912) a ha
      omega
    have hm1 := mulB (a := n) (b := p2 a) 1000000000 1073741824 (by omega) (by omega) (by omega) (by omega) 1073741824000000000 (by omega)
    have HM : Hid (∀ r, mrB a n d r = decide (tW a r * d ≤ n * p2 a)) := fun r => rfl
    have hs0 : n * 2 ^ a = n * p2 a := by rw [hp.1]
    have hs : IntKind.i64.wrap (n * 2 ^ a) = n * p2 a := by rw [hs0]; exact IntWalk.i64_in _ (by omega)
    obtain ⟨y, hy⟩ : ∃ y, n * p2 a = y := ⟨_, rfl⟩
    rw [hy] at hs hm1 HM
    clear hp hy hs0 hR HOK HNO
    have hw1 : IntKind.i64.wrap ((a : Int) + 1) = (a : Int) + 1 := IntWalk.i64_in _ (by omega)
    go_wp2
    go_loopw [19] (fun i wr => ∃ k : Nat, k ≤ a + 1 ∧ i = .int .i64 k ∧ Hid (∀ j, j < k → mrB a n d j = false) ∧ Hid (∃ j, wr = W2.drewN j)) (fun i _ => a + 1 - (intOf i).toNat)
    case atStart => exact ⟨0, Nat.zero_le _, rfl, fun j hj => by omega, 0, rfl⟩
    case round =>
      obtain ⟨k, hk, rfl, HJ, HW⟩ := hrel
      obtain ⟨j, hj⟩ := HW.out
      have KW := Lib.hid (HI2.out.k.drewN j)
      rw [← hj] at KW
      have HBW : Hid (Below w.heap.size w wr) := by show Below _ _ _; rw [hj]; exact belowDrewN HI2.out.b j
      have HJW := Lib.hid hj
      clear hj HW
      by_cases hlt : k < a + 1
      · have hkI : (k : Int) < (a : Int) + 1 := by omega
        have hk0 : (0 : Int) ≤ (k : Int) := by omega
        obtain ⟨c0, c1⟩ := bkf2 KW.out
        have hb := HBD.out k (by omega)
        have CK := Lib.hid (CW.out k (by omega))
        have HMK := Lib.hid (HM.out k)
        obtain ⟨x, hx⟩ : ∃ x, tW a k = x := ⟨_, rfl⟩
        rw [hx] at hb CK HMK
        have hm2 := mulB (a := x) (b := d) 536870912 1000000000 (by omega) (by omega) (by omega) (by omega) 536870912000000000 (by omega)
        obtain ⟨z, hz⟩ : ∃ z, x * d = z := ⟨_, rfl⟩
        have hwz : IntKind.i64.wrap (x * d) = z := by rw [← hz]; exact IntWalk.i64_in _ (by omega)
        rw [hz] at HMK hm2
        clear hx hz
        have ha0 : ¬ (a : Int) < 0 := by omega
        by_cases hc : z ≤ y
        · have hcb : decide (z ≤ y) = true := decide_eq_true hc
          go_wp2
          go_quiet ((go_at_call 88; exact quietD (CK.out _)))
          go_wp2
          go_ret2
          have hR := HR.out
          rw [find_range_some hlt (fun j hj => HJ.out j hj) (by rw [HMK.out, hcb])] at hR
          injection hR with hV hX
          subst hV hX
          exact ⟨rfl, by have := HBW.out; first | exact this | exact blw_drewN this _⟩
        · have hcb : decide (z ≤ y) = false := decide_eq_false hc
          go_wp2
          go_quiet ((go_at_call 88; exact quietD (CK.out _)))
          go_wp2
          go_roundw
          case rel =>
            refine ⟨k + 1, by omega, by go_num, fun j hj => ?_, ?_⟩
            · rcases (by omega : j < k ∨ j = k) with h | rfl
              · exact HJ.out j h
              · rw [HMK.out, hcb]
            · show ∃ _, _ = _
              rw [HJW.out]; exact ⟨_, World.drewN_drewN _ _ _⟩
          case measure => simp only [intOf]; omega
      · obtain rfl : k = a + 1 := by omega
        go_wp2
        go_ret2
        have hR := HR.out
        rw [find_range_none (fun j hj => HJ.out j hj)] at hR
        injection hR with hV hX
        subst hV hX
        exact ⟨rfl, HBW.out⟩
  · have h1 : (E == 0) = false := by rw [beq_eq_false_iff_ne]; exact h0
    have h2 : (E != 0) = true := by rw [bne_iff_ne]; exact h0
    have hR := HNO.out h0
    injection hR with hV hX
    subst hV hX
    clear HOK HNO
    go_wp2
    go_ret2
    exact ⟨rfl, HI2.out.b⟩

end Go.Proofs.Ytccoflhoggpgoaa


namespace Go.Proofs.Ytccoflhoggpgoaa
open Go.RowKit

theorem own_lit1 (W : World) (x : Int) : ((W.alloc (.cells #[.int .i64 x] 3)).ownsRow W.heap.size 3 1 (.slice (some ⟨W.heap.size, 0, none⟩) 1 1) 1 ([x].map (Value.int .i64))) :=
  own_of_bk 1 (Bk.new W 3 (iArr [x])) rfl (Nat.le_refl _) (by omega)
theorem power_any (n : Nat) (hn : n < 31) (w : World) :
    Calls Try.prog 91 #[.int .i64 n] w fun e w' => e = .returned (.int .i64 (p2 n)) ∧ w = w' := by
  have HP : Hid (∀ i, i < n → p2 (i + 1) = 2 * p2 i ∧ 1 ≤ p2 i ∧ p2 i ≤ 1073741824) := fun i hi => ⟨rfl, (p2_pow i (by omega)).2⟩
  go_enter Try.func91, Try.ntmps91
  go_wp2
  go_loop [3, 4] (fun a i => ∃ k : Nat, k ≤ n ∧ i = .int .i64 k ∧ a = .int .i64 (p2 k)) (fun _ i => n - (intOf i).toNat)
  case atStart => exact ⟨0, Nat.zero_le _, rfl, rfl⟩
  case round =>
    obtain ⟨k, hk, rfl, rfl⟩ := hrel
    by_cases hlt : k < n
    · have hkI : (k : Int) < (n : Int) := by omega
      obtain ⟨h1, h2, h3⟩ := HP.out k hlt
      have H1 := Lib.hid h1
      obtain ⟨x, hx⟩ : ∃ x, p2 k = x := ⟨_, rfl⟩
      rw [hx] at h2 h3 H1 ⊢
      have hw : IntKind.i64.wrap (2 * x) = 2 * x := IntWalk.i64_in _ (by omega)
      clear h1 hx
      go_wp2
      go_round
      case rel => exact ⟨k + 1, by omega, by go_num, by rw [H1.out]⟩
      case measure => simp [intOf]; omega
    · obtain rfl : k = n := by omega
      go_wp2
      go_ret
      exact ⟨rfl, rfl⟩
theorem pas_step (i : Nat) : pas (i + 1) = pasN (pas i) i ++ [1] := rfl
theorem pasN_step (l : List Int) (k : Nat) : pasN l (k + 1) = pasN l k ++ [l.getD k 0 + l.getD (k + 1) 0] := rfl
theorem pas_at (i q : Nat) (hi : i < 30) (hq : q ≤ i) : 0 ≤ (pas i).getD q 0 ∧ (pas i).getD q 0 ≤ 1000000000 := by
  obtain ⟨h1, h2⟩ := pas_bd i hi
  rw [List.getD_eq_getElem?_getD, List.getElem?_eq_getElem (by omega), Option.getD_some]
  exact h2 _ (List.getElem_mem _)
set_option maxRecDepth 100000 in
set_option maxHeartbeats 4000000 in
theorem choose_any (n r : Nat) (hn : n < 30) (hr : r ≤ n) (w : World) :
    Calls Try.prog 90 #[.int .i64 n, .int .i64 r] w fun e w' => e = .returned (.int .i64 ((pas n).getD r 0)) ∧ Below w.heap.size w w' := by
  obtain ⟨i0, hi0, hza, hzb, hzc⟩ := info_parts intInfo'
  have HO0 := Lib.hid (own_lit1 w 1)
  have HB0 := Lib.hid (below1 w (.cells #[.int .i64 1] 3))
  go_enter Try.func90, Try.ntmps90
  go_wp2
  go_loopw [5, 6] (fun p i' wr => ∃ i : Nat, i ≤ n ∧ i' = .int .i64 i ∧ Hid (wr.ownsRow w.heap.size 3 1 p (i + 1) ((pas i).map (Value.int .i64))) ∧ Hid (Below w.heap.size w wr)) (fun _ i' _ => n - (intOf i').toNat)
  case atStart => exact ⟨0, Nat.zero_le _, rfl, HO0, HB0⟩
  case round =>
    obtain ⟨i, hi, rfl, HI, HB⟩ := hrel
    clear HO0 HB0
    obtain ⟨A2, c2, rfl, hc2, hrd⟩ := rd_of_own HI.out
    obtain ⟨ad, rfl, hadl, hcs⟩ := hrd.2 (by omega)
    by_cases hlt : i < n
    · have hiI : (i : Int) < (n : Int) := by omega
      obtain ⟨WB, hWB⟩ : ∃ WB, WB = wr := ⟨_, rfl⟩
      subst hWB
      have HCS := Lib.hid hcs
      have HRD := Lib.hid hrd
      clear hcs hrd
      have HO1 := Lib.hid (own_lit1 WB 1)
      have HB1 := Lib.hid (below1 WB (.cells #[.int .i64 1] 3))
      go_wp2
      go_loopw [7, 8] (fun p j' wr => ∃ q j : Nat, q ≤ i ∧ Hid (j = q + 1) ∧ j' = .int .i64 j ∧ Hid (wr.ownsRow WB.heap.size 3 1 p (q + 1) ((pasN (pas i) q).map (Value.int .i64))) ∧ Hid (Below WB.heap.size WB wr)) (fun _ j' _ => i + 1 - (intOf j').toNat)
      case atStart => exact ⟨0, 1, Nat.zero_le _, rfl, rfl, HO1, HB1⟩
      case round =>
        obtain ⟨q, j, hq, HQJ, rfl, HI2, HB2⟩ := hrel
        clear HO1 HB1
        obtain ⟨A3, c3, rfl, hc3, _⟩ := rd_of_own HI2.out
        by_cases hlt2 : q < i
        · have hji : (j : Int) < ((i : Nat) : Int) + 1 := by have := HQJ.out; omega
          have hj0 : (0 : Int) ≤ (j : Int) := by omega
          have hq0 : (0 : Int) ≤ (q : Int) := by omega
          have hqi : (q : Int) < ((i : Nat) : Int) + 1 := by omega
          have hjN : j < i + 1 := by have := HQJ.out; omega
          have hqN : q < i + 1 := by omega
          have hx1 := HCS.out q (by omega)
          have hy1 := HCS.out j (by omega)
          obtain ⟨hx2, hx3⟩ := pas_at i q (by omega) (by omega)
          obtain ⟨hy2, hy3⟩ := pas_at i j (by omega) (by omega)
          have w1 : IntKind.i64.wrap ((j : Int) - 1) = q := by have := HQJ.out; rw [show (j : Int) - 1 = q by omega]; exact IntWalk.i64_in _ (by omega)
          have HXY0 := Lib.hid (pasN_step (pas i) q)
          rw [← HQJ.out] at HXY0
          obtain ⟨x, hx⟩ : ∃ x, (pas i).getD q 0 = x := ⟨_, rfl⟩
          obtain ⟨y, hy⟩ : ∃ y, (pas i).getD j 0 = y := ⟨_, rfl⟩
          rw [hx] at hx1 hx2 hx3 HXY0
          rw [hy] at hy1 hy2 hy3 HXY0
          have w2 : IntKind.i64.wrap (x + y) = x + y := IntWalk.i64_in _ (by omega)
          obtain ⟨aq, haq⟩ : ∃ a, ad.add q = a := ⟨_, rfl⟩
          obtain ⟨aj, haj⟩ : ∃ a, ad.add j = a := ⟨_, rfl⟩
          rw [haq] at hx1
          rw [haj] at hy1
          have hbq : aq.block < WB.heap.size := by rw [← haq, addBlock]; exact hadl
          have hbj : aj.block < WB.heap.size := by rw [← haj, addBlock]; exact hadl
          have HSK : Hid (∀ W, Below WB.heap.size WB W → (fun w' : World => w'.cell? aq = some (.int .i64 x) ∧ w'.cell? aj = some (.int .i64 y)) W) := fun W hb => ⟨(hb.cell hbq).trans hx1, (hb.cell hbj).trans hy1⟩
          have HPJ := Lib.hid HQJ.out
          clear hx hy hx1 hy1 hbq hbj HQJ
          go_wp2
          refine wp_region_held_drew (S := (fun w' : World => w'.cell? aq = some (.int .i64 x) ∧ w'.cell? aj = some (.int .i64 y))) (by kernel_rfl) ?_ ?_
          · exact HSK.out _ HB2.out.drew
          intro hHeld
          refine wpAnyH_take (i := 0) (v := ?_) rfl (by kernel_rfl) (by kernel_rfl) (by kernel_rfl) (fun _ _ _ h => h) (Or.inl ⟨by rfl, ?_⟩) (by assumption) ?_
          rotate_left
          · intro w hSw; (try dsimp only at hSw); go_simp; (try (with_reducible rfl))
          try simp only [List.getElem_toArray, List.getElem_cons_succ, List.getElem_cons_zero, Act.put, List.setIfInBounds_toArray, List.set_cons_zero, List.set_cons_succ]
          refine wpAnyH_take (i := 1) (v := ?_) rfl (by kernel_rfl) (by kernel_rfl) (by kernel_rfl) (fun _ _ _ h => h) (Or.inl ⟨by rfl, ?_⟩) (by assumption) ?_
          rotate_left
          · intro w hSw; (try dsimp only at hSw); go_simp; (try (with_reducible rfl))
          try simp only [List.getElem_toArray, List.getElem_cons_succ, List.getElem_cons_zero, Act.put, List.setIfInBounds_toArray, List.set_cons_zero, List.set_cons_succ]
          refine wpAnyH_take (i := 2) (v := ?_) rfl (by kernel_rfl) (by kernel_rfl) (by kernel_rfl) (fun _ _ _ h => h) (Or.inl ⟨by rfl, ?_⟩) (by assumption) ?_
          rotate_left
          · intro w hSw; (try dsimp only at hSw); go_simp; (try (with_reducible rfl))
          try simp only [List.getElem_toArray, List.getElem_cons_succ, List.getElem_cons_zero, Act.put, List.setIfInBounds_toArray, List.set_cons_zero, List.set_cons_succ]
          refine wpAnyH_take (i := 3) (v := ?_) rfl (by kernel_rfl) (by kernel_rfl) (by kernel_rfl) (fun _ _ _ h => h) (Or.inl ⟨by rfl, ?_⟩) (by assumption) ?_
          rotate_left
          · intro w hSw; (try dsimp only at hSw); go_simp; (try (with_reducible rfl))
          try simp only [List.getElem_toArray, List.getElem_cons_succ, List.getElem_cons_zero, Act.put, List.setIfInBounds_toArray, List.set_cons_zero, List.set_cons_succ]
          refine wpAnyH_take (i := 4) (v := ?_) rfl (by kernel_rfl) (by kernel_rfl) (by kernel_rfl) (fun _ _ _ h => h) (Or.inl ⟨by rfl, ?_⟩) (by assumption) ?_
          rotate_left
          · intro w hSw; (try dsimp only at hSw); go_simp; (try (with_reducible rfl))
          try simp only [List.getElem_toArray, List.getElem_cons_succ, List.getElem_cons_zero, Act.put, List.setIfInBounds_toArray, List.set_cons_zero, List.set_cons_succ]
          refine wpAnyH_take (i := 5) (v := ?_) rfl (by kernel_rfl) (by kernel_rfl) (by kernel_rfl) (fun _ _ _ h => h) (Or.inl ⟨by rfl, ?_⟩) (by assumption) ?_
          rotate_left
          · intro w hSw; (try dsimp only at hSw); go_simp; (try (with_reducible rfl))
          try simp only [List.getElem_toArray, List.getElem_cons_succ, List.getElem_cons_zero, Act.put, List.setIfInBounds_toArray, List.set_cons_zero, List.set_cons_succ]
          refine wpAnyH_take (i := 6) (v := ?_) rfl (by kernel_rfl) (by kernel_rfl) (by kernel_rfl) (fun _ _ _ h => h) (Or.inl ⟨by rfl, ?_⟩) (by assumption) ?_
          rotate_left
          · intro w hSw; (try dsimp only at hSw); go_simp; (try (with_reducible rfl))
          try simp only [List.getElem_toArray, List.getElem_cons_succ, List.getElem_cons_zero, Act.put, List.setIfInBounds_toArray, List.set_cons_zero, List.set_cons_succ]
          refine wpAnyH_take (i := 7) (v := ?_) rfl (by kernel_rfl) (by kernel_rfl) (by kernel_rfl) (fun _ _ _ h => h) (Or.inl ⟨by rfl, ?_⟩) (by assumption) ?_
          rotate_left
          · intro w hSw; (try dsimp only at hSw); go_simp; (try (with_reducible rfl))
          try simp only [List.getElem_toArray, List.getElem_cons_succ, List.getElem_cons_zero, Act.put, List.setIfInBounds_toArray, List.set_cons_zero, List.set_cons_succ]
          refine wpAnyH_take (i := 8) (v := ?_) rfl (by kernel_rfl) (by kernel_rfl) (by kernel_rfl) (fun _ _ _ h => h) (Or.inl ⟨by rfl, ?_⟩) (by assumption) ?_
          rotate_left
          · intro w hSw; (try dsimp only at hSw); go_simp; (try (with_reducible rfl))
          try simp only [List.getElem_toArray, List.getElem_cons_succ, List.getElem_cons_zero, Act.put, List.setIfInBounds_toArray, List.set_cons_zero, List.set_cons_succ]
          refine wpAnyH_take (i := 9) (v := ?_) rfl (by kernel_rfl) (by kernel_rfl) (by kernel_rfl) (fun _ _ _ h => h) (Or.inl ⟨by rfl, ?_⟩) (by assumption) ?_
          rotate_left
          · intro w hSw; (try dsimp only at hSw); go_simp; (try (with_reducible rfl))
          try simp only [List.getElem_toArray, List.getElem_cons_succ, List.getElem_cons_zero, Act.put, List.setIfInBounds_toArray, List.set_cons_zero, List.set_cons_succ]
          refine wpAnyH_take (i := 10) (v := ?_) rfl (by kernel_rfl) (by kernel_rfl) (by kernel_rfl) (fun _ _ _ h => h) (Or.inl ⟨by rfl, ?_⟩) (by assumption) ?_
          rotate_left
          · intro w hSw; (try dsimp only at hSw); go_simp; (try (with_reducible rfl))
          try simp only [List.getElem_toArray, List.getElem_cons_succ, List.getElem_cons_zero, Act.put, List.setIfInBounds_toArray, List.set_cons_zero, List.set_cons_succ]
          refine wpAnyH_ready (rs := [11]) (by kernel_rfl) (by simp) ?_
          refine AllReadyH.cons rfl (fun K hK => ?_) AllReadyH.nil
          go_simp
          refine hK.out _ _ ?_ (fun hHeld => ?_)
          · clear hK K; exact HSK.out _ ((HB2.out.drew).alloc (HB2.out.drew).size _)
          clear hK K
          try simp only [List.getElem_toArray, List.getElem_cons_succ, List.getElem_cons_zero, Act.put, List.setIfInBounds_toArray, List.set_cons_zero, List.set_cons_succ]
          refine wpAnyH_ready (rs := [12]) (by kernel_rfl) (by simp) ?_
          refine AllReadyH.cons rfl (fun K hK => ?_) AllReadyH.nil
          refine step_append_at _ rfl (.tmp 22) (.tmp 33) 43 rfl WB.heap.size 3 i0 _ 1 8 Try.underlying43 hi0 hza hzb hzc rfl (by decide) _ (q + 1) _ rfl ((HI2.out.drew).alloc _) ⟨wr.heap.size, 0, none⟩ 1 1 [.int .i64 (x + y)] rfl rfl (cell_one_new _ _ _) (by simp [Value.oneCell']) (by simp only [maxLen]; omega) (by omega) (by have := (HB2.out.drew).size; simp at this ⊢; omega) ?_
          intro v' w4 hown' hgrow _ hat
          obtain ⟨g', cap', rfl⟩ := ownsRow_succ hown'
          have HB4 : Hid (Below WB.heap.size WB w4) := ((HB2.out.drew).alloc (HB2.out.drew).size _).grown hgrow (by have := (HB2.out.drew).size; simp at this ⊢; omega) (fun z e => ((HI2.out.drew).lt z e).1)
          have HO4 : Hid (w4.ownsRow WB.heap.size 3 1 (.slice (some ⟨g', 0, none⟩) (q + 1 + 1) cap') (q + 1 + 1) ((pasN (pas i) (q + 1)).map (Value.int .i64))) := by
            refine Lib.hid ?_
            rw [show pasN (pas i) (q + 1) = pasN (pas i) q ++ [x + y] by rw [← HXY0.out, HPJ.out], List.map_append]
            exact hown'
          clear hown' hgrow hat
          refine hK.out _ _ ?_ (fun hHeld => ?_)
          · clear hK K; exact HSK.out _ HB4.out
          clear hK K
          try simp only [List.getElem_toArray, List.getElem_cons_succ, List.getElem_cons_zero, Act.put, List.setIfInBounds_toArray, List.set_cons_zero, List.set_cons_succ]
          refine wpAnyH_take (i := 13) (v := ?_) rfl (by kernel_rfl) (by kernel_rfl) (by kernel_rfl) (fun _ _ _ h => h) (Or.inl ⟨by rfl, ?_⟩) (by assumption) ?_
          rotate_left
          · intro w hSw; (try dsimp only at hSw); go_simp; (try (with_reducible rfl))
          try simp only [List.getElem_toArray, List.getElem_cons_succ, List.getElem_cons_zero, Act.put, List.setIfInBounds_toArray, List.set_cons_zero, List.set_cons_succ]
          refine wpAnyH_done (by kernel_rfl) ?_ _
          clear hHeld
          go_wp2
          go_roundw
          case rel => exact ⟨q + 1, j + 1, by omega, by show _ = _; rw [HPJ.out], by go_num, HO4, HB4⟩
          case measure => simp only [intOf]; first | omega | (simp [intOf]; omega)
        · obtain rfl : q = i := by omega
          have hji : ¬ (j : Int) < ((q : Nat) : Int) + 1 := by have := HQJ.out; omega
          have ho1 : Hid (Below WB.heap.size WB wr) := HB2
          clear HB2
          go_wp2_with (at_builtin; refine wpList_append_own _ rfl (.tmp 35) (.tmp 36) 43 rfl WB.heap.size 3 i0 _ 1 8 Try.underlying43 hi0 hza hzb hzc rfl (by decide) _ _ _ rfl (HI2.out.alloc _) ⟨wr.heap.size, 0, none⟩ 1 1 [.int .i64 1] rfl rfl (cell_one_new _ _ _) (by simp [Value.oneCell']) (by simp only [maxLen]; omega) (by omega) (by have := ho1.out.size; simp; omega) ?_)
          intro v w4 hown' hgrow _
          have HB4 : Hid (Below WB.heap.size WB w4) := ((ho1.out).alloc (ho1.out).size (.cells #[.int .i64 1] 3)).grown hgrow (by have := ho1.out.size; simp; omega) (fun z e => ((HI2.out.alloc (.cells #[.int .i64 1] 3)).lt z e).1)
          have HO4 : Hid (w4.ownsRow w.heap.size 3 1 v (q + 1 + 1) ((pas (q + 1)).map (Value.int .i64))) := by
            show World.ownsRow _ _ _ _ _ _ _
            have h := ownMono hown' HB.out.size
            rw [pas_step, List.map_append]
            exact h
          have HB5 := Lib.hid (HB.out.trans (HB4.out.mono HB.out.size))
          clear hown' hgrow HB4 HI2 ho1
          go_wp2
          go_roundw
          case rel => exact ⟨q + 1, by omega, by go_num, HO4, HB5⟩
          case measure => simp only [intOf]; first | omega | (simp [intOf]; omega)
    · obtain rfl : i = n := by omega
      have hrI : (r : Int) < ((i + 1 : Nat) : Int) := by omega
      have hrN : r < i + 1 := by omega
      have hx1 := hcs r (by omega)
      obtain ⟨x, hx⟩ : ∃ x, (pas i).getD r 0 = x := ⟨_, rfl⟩
      have HX := Lib.hid hx
      rw [hx] at hx1
      clear hx hcs hrd
      go_wp2
      go_ret
      exact ⟨by rw [HX.out]; rfl, HB.out⟩

end Go.Proofs.Ytccoflhoggpgoaa


namespace Go.Proofs.Ytccoflhoggpgoaa
open Go.RowKit

theorem refTrialsErr_any (n : Int) (w : World) :
    Calls Try.prog 20 #[.int .i64 n] w fun e w' => e = .returned (.int .i64 (rngE 0 29 [n])) ∧ w = w' := by
  have C := Lib.hid (fun w => within_any n 0 29 w)
  have HE : Hid (rngE 0 29 [n] = if fromB 0 29 [n] = true then 0 else 2) := rfl
  obtain ⟨V, hV⟩ : ∃ V, rngE 0 29 [n] = V := ⟨_, rfl⟩
  obtain ⟨b, hb⟩ : ∃ b, fromB 0 29 [n] = b := ⟨_, rfl⟩
  rw [hV] at HE ⊢
  rw [hb] at HE C
  clear hV hb
  cases b
  all_goals
    go_enter Try.func20, Try.ntmps20
    go_wp2_with fail
    refine (C.out _).mono ?_
    rintro e w' ⟨rfl, rfl⟩
    go_wp2
    go_ret
    exact ⟨by rw [HE.out]; rfl, rfl⟩

theorem refTailErr_any (t r : Int) (w : World) :
    Calls Try.prog 18 #[.int .i64 t, .int .i64 r] w fun e w' => e = .returned (.int .i64 (tlE t r)) ∧ w = w' := by
  have C1 := Lib.hid (fun w => refTrialsErr_any t w)
  have C2 := Lib.hid (fun w => within_any r 0 t w)
  have HE : Hid (tlE t r = if rngE 0 29 [t] = 0 then (if fromB 0 t [r] = true then 0 else 2) else 2) := by
    show _ = _
    unfold tlE
    rw [firstNZ2]
    unfold rngE
    cases fromB 0 29 [t] <;> cases fromB 0 t [r] <;> simp
  obtain ⟨V, hV⟩ : ∃ V, tlE t r = V := ⟨_, rfl⟩
  obtain ⟨b, hb⟩ : ∃ b, fromB 0 t [r] = b := ⟨_, rfl⟩
  obtain ⟨E1, hE1⟩ : ∃ b, rngE 0 29 [t] = b := ⟨_, rfl⟩
  rw [hV] at HE ⊢
  rw [hb] at HE C2
  rw [hE1] at HE C1
  clear hV hb hE1
  by_cases h0 : E1 = 0
  · subst h0
    cases b
    all_goals
      go_enter Try.func18, Try.ntmps18
      go_wp2_with fail
      refine (C1.out _).mono ?_
      rintro e w' ⟨rfl, rfl⟩
      go_wp2_with fail
      refine (C2.out _).mono ?_
      rintro e w' ⟨rfl, rfl⟩
      go_wp2
      go_ret
      exact ⟨by rw [HE.out]; rfl, rfl⟩
  · have h1 : (E1 == 0) = false := by rw [beq_eq_false_iff_ne]; exact h0
    have h2 : (E1 != 0) = true := by rw [bne_iff_ne]; exact h0
    go_enter Try.func18, Try.ntmps18
    go_wp2_with fail
    refine (C1.out _).mono ?_
    rintro e w' ⟨rfl, rfl⟩
    go_wp2
    go_ret
    exact ⟨by rw [HE.out, if_neg h0]; rfl, rfl⟩

set_option maxHeartbeats 1000000 in
theorem refLevelErr_any (n d : Int) (w : World) (hn : -9223372036854775808 ≤ n ∧ n ≤ 9223372036854775807) (hd : -9223372036854775808 ≤ d ∧ d ≤ 9223372036854775807) :
    Calls Try.prog 21 #[.agg #[.int .i64 n, .int .i64 d]] w fun e w' => e = .returned (.int .i64 (lvE n d)) ∧ Below w.heap.size w w' := by
  have CL := Lib.hid (fun w => bIsLowest_any n d hn.1 hn.2 hd.2 w)
  have C2 := Lib.hid (fun w => within_any n 0 d w)
  have HE : Hid (lvE n d = if lowB n d = true then (if fromB 0 d [n] = true then (if 1000000000 < d then 2 else 0) else 2) else 3) := by
    show _ = _
    unfold lvE rngE
    rw [firstNZ3]
    cases lowB n d <;> cases fromB 0 d [n] <;> simp
  have HI0 := Lib.hid (OneB.start w 23 #[.int .i64 n, .int .i64 d])
  obtain ⟨V, hV⟩ : ∃ V, lvE n d = V := ⟨_, rfl⟩
  obtain ⟨lb, hlb⟩ : ∃ b, lowB n d = b := ⟨_, rfl⟩
  obtain ⟨b, hb⟩ : ∃ b, fromB 0 d [n] = b := ⟨_, rfl⟩
  rw [hV] at HE ⊢
  rw [hlb] at HE CL
  rw [hb] at HE C2
  clear hV hlb hb
  go_enter Try.func21, Try.ntmps21
  go_wp2_with fail
  refine (CL.out _).mono ?_
  rintro e w3 ⟨rfl, hb3⟩
  have HI := Lib.hid (OneB.later hb3 HI0.out)
  obtain ⟨c0, c1⟩ := bkf2 HI.out.k
  clear hb3 HI0
  cases lb
  · go_wp2
    go_ret
    exact ⟨by rw [HE.out]; rfl, HI.out.b⟩
  · go_wp2_with fail
    refine (C2.out _).mono ?_
    rintro e w' ⟨rfl, rfl⟩
    cases b
    · go_wp2
      go_ret
      exact ⟨by rw [HE.out]; rfl, HI.out.b⟩
    · by_cases h5 : 1000000000 < d
      · obtain rfl : V = 2 := by rw [HE.out]; simp [h5]
        go_wp2
        go_ret
        exact ⟨rfl, HI.out.b⟩
      · obtain rfl : V = 0 := by rw [HE.out]; simp [h5]
        go_wp2
        go_ret
        exact ⟨rfl, HI.out.b⟩

set_option maxRecDepth 100000 in
set_option maxHeartbeats 2000000 in
theorem refTailOf_any (t r : Nat) (ht : t < 30) (hr : r ≤ t) (w : World) :
    Calls Try.prog 19 #[.int .i64 t, .int .i64 r] w fun e w' => e = .returned (.agg #[.int .i64 (fN (tW t r) (p2 t)), .int .i64 (fD (tW t r) (p2 t))]) ∧ Below w.heap.size w w' := by
  have hw := tW_bd t ht r hr
  have hp := p2_pow t (by omega)
  have HS := Lib.hid (cS_tW t ht r hr)
  have HB := Lib.hid (cS_bd t ht r hr)
  have HST : Hid (∀ j, cS t r (j + 1) = cS t r j + (pas t).getD (r + j) 0) := fun j => rfl
  have CC : Hid (∀ j, j < t + 1 - r → ∀ w, Calls Try.prog 90 #[.int .i64 t, .int .i64 ((r + j : Nat) : Int)] w fun e w' => e = .returned (.int .i64 ((pas t).getD (r + j) 0)) ∧ Below w.heap.size w w') := fun j hj w => choose_any t (r + j) ht (by omega) w
  have HPA : Hid (∀ j, j < t + 1 - r → 0 ≤ (pas t).getD (r + j) 0 ∧ (pas t).getD (r + j) 0 ≤ 1000000000) := fun j hj => pas_at t (r + j) ht (by omega)
  have CP := Lib.hid (fun w => power_any t (by omega) w)
  have CF := Lib.hid (fun w => bLowest_any (tW t r) (p2 t) w (by omega) (by omega) (by omega) (by omega))
  obtain ⟨N, hN⟩ : ∃ N, fN (tW t r) (p2 t) = N := ⟨_, rfl⟩
  obtain ⟨D, hD⟩ : ∃ D, fD (tW t r) (p2 t) = D := ⟨_, rfl⟩
  rw [hN, hD] at CF ⊢
  obtain ⟨x, hx⟩ : ∃ x, tW t r = x := ⟨_, rfl⟩
  obtain ⟨y, hy⟩ : ∃ y, p2 t = y := ⟨_, rfl⟩
  rw [hx] at CF HS
  rw [hy] at CF CP
  clear hN hD hx hy hw hp
  have R0 := Lib.hid (OneB.start w 23 #[.int .i64 0, .int .i64 0])
  go_enter Try.func19, Try.ntmps19
  go_wp2
  go_loopw [5, 6] (fun s i wr => ∃ j κ : Nat, j ≤ t + 1 - r ∧ Hid (κ = r + j) ∧ i = .int .i64 κ ∧ s = .int .i64 (cS t r j) ∧ Hid (OneB w w.heap.size 23 #[.int .i64 0, .int .i64 0] wr)) (fun _ i _ => t + 1 - (intOf i).toNat)
  case atStart => exact ⟨0, r, Nat.zero_le _, rfl, rfl, rfl, R0⟩
  case round =>
    obtain ⟨j, κ, hj, HK, rfl, rfl, HI⟩ := hrel
    clear R0
    have hbj := HB.out j hj
    by_cases hlt : j < t + 1 - r
    · have hκ : (κ : Int) ≤ (t : Int) := by have := HK.out; omega
      have CJ := Lib.hid (CC.out j hlt)
      have hpa := HPA.out j hlt
      have HSJ := Lib.hid (HST.out j)
      rw [← HK.out] at CJ hpa HSJ
      obtain ⟨z, hz⟩ : ∃ z, (pas t).getD κ 0 = z := ⟨_, rfl⟩
      obtain ⟨u, hu⟩ : ∃ z, cS t r j = z := ⟨_, rfl⟩
      rw [hz] at CJ hpa HSJ
      rw [hu] at hbj HSJ ⊢
      clear hz hu
      have hw : IntKind.i64.wrap (u + z) = u + z := IntWalk.i64_in _ (by omega)
      have HKJ := Lib.hid HK.out
      clear HK
      go_wp2_with fail
      refine (CJ.out _).mono ?_
      rintro e w3 ⟨rfl, hb3⟩
      have HI3 := Lib.hid (OneB.later hb3 HI.out)
      clear hb3 HI
      go_wp2
      go_roundw
      case rel => exact ⟨j + 1, κ + 1, by omega, by show _ = _; rw [HKJ.out]; omega, by go_num, by rw [HSJ.out], HI3⟩
      case measure => simp only [intOf]; first | omega | (simp [intOf]; omega)
    · obtain rfl : j = t + 1 - r := by omega
      have hκ : ¬ (κ : Int) ≤ (t : Int) := by have := HK.out; omega
      rw [HS.out] at hbj ⊢
      clear HK
      go_wp2_with fail
      refine (CP.out _).mono ?_
      rintro e w' ⟨rfl, rfl⟩
      go_wp2_with fail
      refine (CF.out _).mono ?_
      rintro e w4 ⟨rfl, hb4⟩
      have HI4 := OneB.later hb4 HI.out
      clear hb4 HI
      obtain ⟨e0, e1, k0, k1⟩ := bk2 HI4.k
      go_wp2
      refine bodyPost_ret (v := .agg #[.int .i64 N, .int .i64 D]) (by simp [results, Try.results19, go_sem, e0, e1, k0, k1]) rfl ⟨rfl, ?_⟩
      have hbw := HI4.b
      have hbz := hbw.size
      go_grown

/-- The reference's way to the least number. -/
theorem mrB_cmp (t r : Nat) (n d : Int) (ht : t < 30) (hr : r ≤ t) : mrB t n d r = decide (cmpF (fN (tW t r) (p2 t)) (fD (tW t r) (p2 t)) n d ≤ 0) := by
  have hw := tW_bd t ht r hr
  have hp := p2_pow t (by omega)
  obtain ⟨g1, _, _, _, _, _, g2, g3⟩ := gcd_facts (a := tW t r) (b := p2 t) (by omega) (by omega)
  unfold mrB
  refine decide_eq_decide.2 ?_
  obtain ⟨g, hg⟩ : ∃ g : Int, (Int.gcd (tW t r) (p2 t) : Int) = g := ⟨_, rfl⟩
  rw [hg] at g2 g3
  have hg0 : 0 < g := by omega
  obtain ⟨N, hN⟩ : ∃ N, fN (tW t r) (p2 t) = N := ⟨_, rfl⟩
  obtain ⟨D, hD⟩ : ∃ D, fD (tW t r) (p2 t) = D := ⟨_, rfl⟩
  rw [hN] at g2 ⊢
  rw [hD] at g3 ⊢
  rw [← g2, ← g3]
  have e1 : N * g * d = g * (N * d) := by rw [Int.mul_comm N g, Int.mul_assoc]
  have e2 : n * (D * g) = g * (n * D) := by rw [← Int.mul_assoc, Int.mul_comm]
  rw [e1, e2]
  constructor
  · intro h
    have h1 : N * d ≤ n * D := Int.le_of_mul_le_mul_left h hg0
    unfold cmpF
    split
    · omega
    · rw [if_neg (by omega)]; omega
  · intro h
    refine Int.mul_le_mul_of_nonneg_left ?_ (by omega)
    unfold cmpF at h
    split at h
    · omega
    · split at h
      · omega
      · omega

end Go.Proofs.Ytccoflhoggpgoaa

namespace Go.Proofs.Ytccoflhoggpgoaa
open Go.RowKit

open Go.Shelf

set_option maxRecDepth 100000 in
theorem isSample_any (n : Int) (w : World) : Calls Try.prog 130 #[.int .i64 n] w fun e w' => e = .returned (.bool (fromB (-32767) 32767 [n])) ∧ w = w' := by
  have C := Lib.hid (fun w => within_any n (-32767) 32767 w)
  obtain ⟨b, hb⟩ : ∃ b, fromB (-32767) 32767 [n] = b := ⟨_, rfl⟩
  rw [hb] at C ⊢
  clear hb
  go_enter Try.func130, Try.ntmps130
  go_wp2_with fail
  refine (C.out _).mono ?_
  rintro e w' ⟨rfl, rfl⟩
  go_wp2
  go_ret
  exact ⟨rfl, rfl⟩
theorem fromB_cons (lo hi x : Int) (l : List Int) : fromB lo hi (x :: l) = (fromB lo hi [x] && fromB lo hi l) := by simp [fromB]
theorem fromB_drop (lo hi : Int) (l : List Int) (k : Nat) (hk : k < l.length) : fromB lo hi (l.drop k) = (fromB lo hi [l.getD k 0] && fromB lo hi (l.drop (k + 1))) := by
  rw [List.drop_eq_getElem_cons hk, fromB_cons, List.getD_eq_getElem?_getD, List.getElem?_eq_getElem hk, Option.getD_some]
set_option maxRecDepth 100000 in
set_option maxHeartbeats 2000000 in
theorem areSamples_any (A : Option Addr) (n c : Nat) (xs : List Int) (w : World) (hr : RdI w A n xs) (hn : n ≤ 1000000) :
    Calls Try.prog 96 #[.slice A n c] w fun e w' => e = .returned (.bool (fromB (-32767) 32767 xs)) ∧ w = w' := by
  have HR := Lib.hid hr
  have HST : Hid (∀ k, k < n → fromB (-32767) 32767 (xs.drop k) = (fromB (-32767) 32767 [xs.getD k 0] && fromB (-32767) 32767 (xs.drop (k + 1)))) := fun k hk => fromB_drop _ _ xs k (by rw [hr.1]; exact hk)
  have HEND : Hid (fromB (-32767) 32767 (xs.drop n) = true) := by show _ = _; rw [List.drop_eq_nil_of_le (by rw [hr.1]; exact Nat.le_refl _)]; rfl
  have H0 : Hid (fromB (-32767) 32767 xs = fromB (-32767) 32767 (xs.drop 0)) := by show _ = _; rw [List.drop_zero]
  obtain ⟨V, hV⟩ : ∃ V, fromB (-32767) 32767 xs = V := ⟨_, rfl⟩
  rw [hV] at H0 ⊢
  clear hr hV
  go_enter Try.func96, Try.ntmps96
  go_wp2
  go_loop [3] (fun i => ∃ k : Nat, k ≤ n ∧ i = .int .i64 k ∧ Hid (V = fromB (-32767) 32767 (xs.drop k))) (fun i => n - (intOf i).toNat)
  case atStart => exact ⟨0, Nat.zero_le _, rfl, H0⟩
  case round =>
    obtain ⟨k, hk, rfl, HV⟩ := hrel
    by_cases hlt : k < n
    · have hkI : (k : Int) < (n : Int) := by omega
      have hk0 : (0 : Int) ≤ (k : Int) := by omega
      obtain ⟨ad, ha, _, hc⟩ := HR.out.2 (by omega)
      subst ha
      have hck := hc k hlt
      have HS := Lib.hid (HST.out k hlt)
      have C := Lib.hid (fun w => isSample_any (xs.getD k 0) w)
      obtain ⟨x, hx⟩ : ∃ x, xs.getD k 0 = x := ⟨_, rfl⟩
      rw [hx] at hck HS C
      obtain ⟨b, hb⟩ : ∃ b, fromB (-32767) 32767 [x] = b := ⟨_, rfl⟩
      rw [hb] at HS C
      clear hc hx hb
      cases b with
      | true =>
        go_wp2_with fail
        refine (C.out _).mono ?_
        rintro e w' ⟨rfl, rfl⟩
        go_wp2
        go_round
        case rel => exact ⟨k + 1, by omega, by go_num, by show _ = _; rw [HV.out, HS.out, Bool.true_and]⟩
        case measure => simp [intOf]; omega
      | false =>
        obtain rfl : V = false := by rw [HV.out, HS.out, Bool.false_and]
        go_wp2_with fail
        refine (C.out _).mono ?_
        rintro e w' ⟨rfl, rfl⟩
        go_wp2
        go_ret
        exact ⟨rfl, rfl⟩
    · obtain rfl : n = k := by omega
      have hkI : ¬ (n : Int) < (n : Int) := by omega
      obtain rfl : V = true := by rw [HV.out, HEND.out]
      go_wp2
      go_ret
      exact ⟨rfl, rfl⟩
set_option maxRecDepth 100000 in
theorem refSignalErr_any (A : Option Addr) (n c : Nat) (xs : List Int) (w : World) (hr : RdI w A n xs) (hn : n ≤ 1000000) :
    Calls Try.prog 35 #[.slice A n c] w fun e w' => e = .returned (.int .i64 (sgE xs)) ∧ w = w' := by
  have C := Lib.hid (areSamples_any A n c xs w hr hn)
  have HF : Hid (sgE xs = if 200 < n then 8 else if fromB (-32767) 32767 xs = true then 0 else 2) := by
    show _ = _
    unfold sgE rngE
    rw [hr.1]
    by_cases h : 200 < n
    · simp [h, firstNZ]
    · simp [h, firstNZ]
  obtain ⟨V, hV⟩ : ∃ V, sgE xs = V := ⟨_, rfl⟩
  rw [hV] at HF ⊢
  obtain ⟨b, hb⟩ : ∃ b, fromB (-32767) 32767 xs = b := ⟨_, rfl⟩
  rw [hb] at HF C
  clear hV hb hr
  by_cases h : 200 < n
  · have hI : (200 : Int) < (n : Int) := by omega
    obtain rfl : V = 8 := by rw [HF.out, if_pos h]
    go_enter Try.func35, Try.ntmps35
    go_wp2
    go_ret
    exact ⟨rfl, rfl⟩
  · have hI : ¬ (200 : Int) < (n : Int) := by omega
    cases b with
    | true =>
      obtain rfl : V = 0 := by rw [HF.out, if_neg h]; rfl
      go_enter Try.func35, Try.ntmps35
      go_wp2_with fail
      refine C.out.mono ?_
      rintro e w' ⟨rfl, rfl⟩
      go_wp2
      go_ret
      exact ⟨rfl, rfl⟩
    | false =>
      obtain rfl : V = 2 := by rw [HF.out, if_neg h]; rfl
      go_enter Try.func35, Try.ntmps35
      go_wp2_with fail
      refine C.out.mono ?_
      rintro e w' ⟨rfl, rfl⟩
      go_wp2
      go_ret
      exact ⟨rfl, rfl⟩
set_option maxRecDepth 100000 in
set_option maxHeartbeats 2000000 in
theorem refMeterErr_any (L H G P : Int) (w : World) :
    Calls Try.prog 33 #[.agg #[.int .i64 L, .int .i64 H, .int .i64 G, .int .i64 P]] w fun e w' => e = .returned (.int .i64 (mtE L H G P)) ∧ Below w.heap.size w w' := by
  have C1 := Lib.hid (fun w => within_any L 1 50 w)
  have C2 := Lib.hid (fun w => within_any H 1 L w)
  have C3 := Lib.hid (fun w => within_any G 0 1073676289 w)
  have C4 := Lib.hid (fun w => within_any P 0 100 w)
  have HF : Hid (mtE L H G P = if fromB 1 50 [L] = true ∧ fromB 1 L [H] = true ∧ fromB 0 1073676289 [G] = true ∧ fromB 0 100 [P] = true then 0 else 2) := by
    show _ = _
    unfold mtE rngE
    cases fromB 1 50 [L] <;> cases fromB 1 L [H] <;> cases fromB 0 1073676289 [G] <;> cases fromB 0 100 [P] <;> rfl
  obtain ⟨V, hV⟩ : ∃ V, mtE L H G P = V := ⟨_, rfl⟩
  rw [hV] at HF ⊢
  obtain ⟨b1, h1⟩ : ∃ b, fromB 1 50 [L] = b := ⟨_, rfl⟩
  obtain ⟨b2, h2⟩ : ∃ b, fromB 1 L [H] = b := ⟨_, rfl⟩
  obtain ⟨b3, h3⟩ : ∃ b, fromB 0 1073676289 [G] = b := ⟨_, rfl⟩
  obtain ⟨b4, h4⟩ : ∃ b, fromB 0 100 [P] = b := ⟨_, rfl⟩
  rw [h1] at C1 HF
  rw [h2] at C2 HF
  rw [h3] at C3 HF
  rw [h4] at C4 HF
  clear hV h1 h2 h3 h4
  have R0 := Lib.hid (OneB.start w 42 #[.int .i64 L, .int .i64 H, .int .i64 G, .int .i64 P])
  cases b1 <;> cases b2 <;> cases b3 <;> cases b4 <;> (
    have hv := HF.out
    simp at hv
    subst hv
    clear HF
    go_enter Try.func33, Try.ntmps33
    have c0 := four R0.out.k
    go_wp2_with (first | (go_at_call 28; ((with_reducible refine (C1.out _).mono ?_)); rintro e w' ⟨rfl, rfl⟩) | (go_at_call 28; ((with_reducible refine (C2.out _).mono ?_)); rintro e w' ⟨rfl, rfl⟩) | (go_at_call 28; ((with_reducible refine (C3.out _).mono ?_)); rintro e w' ⟨rfl, rfl⟩) | (go_at_call 28; ((with_reducible refine (C4.out _).mono ?_)); rintro e w' ⟨rfl, rfl⟩))
    go_ret
    exact ⟨rfl, R0.out.b⟩)

end Go.Proofs.Ytccoflhoggpgoaa

namespace Go.Proofs.Ytccoflhoggpgoaa
open Go.RowKit

open Go.Shelf

theorem own_drewN {w : World} {base : Nat} {e : TypeId} {size : Nat} {v : Value} {n : Nat} {xs : List Value} (h : w.ownsRow base e size v n xs) (m : Nat) : (w.drewN m).ownsRow base e size v n xs := h
theorem enA_zero (xs : List Int) (s : Nat) : sqS ((xs.drop s).take 0) = 0 := by rw [List.take_zero]; rfl
theorem enA_step (xs : List Int) (s j : Nat) (h : s + j < xs.length) : sqS ((xs.drop s).take (j + 1)) = sqS ((xs.drop s).take j) + xs.getD (s + j) 0 * xs.getD (s + j) 0 := by
  rw [take_snoc (by rw [List.length_drop]; omega), sqS_snoc]
  simp [List.getD_eq_getElem?_getD, List.getElem?_drop]
theorem enJ_bd {xs : List Int} (h : small xs) (s j : Nat) (hj : j ≤ 50) : 0 ≤ sqS ((xs.drop s).take j) ∧ sqS ((xs.drop s).take j) ≤ 53683814450 := by
  have h1 := sqS_bd ((xs.drop s).take j) (fun x hx => h x (List.mem_of_mem_drop (List.mem_of_mem_take hx)))
  rw [List.length_take] at h1
  omega

set_option maxRecDepth 100000 in
set_option maxHeartbeats 4000000 in
theorem refEnergies_any (L H : Nat) (G P : Int) (B : Option Addr) (n c : Nat) (xs : List Int) (w : World) (hr : RdI w B n xs) (hn : n ≤ 200) (hnc : n ≤ c) (hL : 0 < L ∧ L ≤ 50) (hH : 0 < H ∧ H ≤ 50) (hs : small xs) :
    Calls Try.prog 97 #[.agg #[.int .i64 L, .int .i64 H, .int .i64 G, .int .i64 P], .slice B n c] w (OwnS w (esL xs L H)) := by
  obtain ⟨i0, hi0, hza, hzb, hzc⟩ := info_parts intInfo'
  have HR := Lib.hid hr
  have hln := hr.1
  have HK : Hid (∀ k, k < (esL xs L H).length ↔ k * H + L ≤ n) := fun k => by rw [esL_len, kN_lt hH.1, hln]
  have HKL : Hid ((esL xs L H).length ≤ n) := by show _ ≤ _; rw [esL_len, ← hln]; exact kN_le hL.1 hH.1
  have HST : Hid (∀ k, k < (esL xs L H).length → (esL xs L H).take (k + 1) = (esL xs L H).take k ++ [sqS ((xs.drop (k * H)).take L)]) := fun k hk => esL_take xs L H k (by rwa [esL_len] at hk)
  have HJS : Hid (∀ s j, s + j < n → sqS ((xs.drop s).take (j + 1)) = sqS ((xs.drop s).take j) + xs.getD (s + j) 0 * xs.getD (s + j) 0) := fun s j h => enA_step xs s j (by omega)
  have HJB : Hid (∀ s j, j ≤ 50 → 0 ≤ sqS ((xs.drop s).take j) ∧ sqS ((xs.drop s).take j) ≤ 53683814450) := fun s j hj => enJ_bd hs s j hj
  have HXS : Hid (∀ k, k < n → -32767 ≤ xs.getD k 0 ∧ xs.getD k 0 ≤ 32767) := fun k hk => getD_small hs (by omega)
  obtain ⟨es, hes⟩ : ∃ es, esL xs L H = es := ⟨_, rfl⟩
  rw [hes] at HK HKL HST ⊢
  clear hes hs hr
  have R0 := Lib.hid (OneB.start w 42 #[.int .i64 L, .int .i64 H, .int .i64 G, .int .i64 P])
  go_enter Try.func97, Try.ntmps97
  go_wp2
  obtain ⟨WB, hWB⟩ : ∃ WB, w.alloc (.cells #[.int .i64 L, .int .i64 H, .int .i64 G, .int .i64 P] 42) = WB := ⟨_, rfl⟩
  rw [hWB] at R0 ⊢
  clear hWB
  go_loopw [5, 6] (fun p i wr => ∃ k s : Nat, k ≤ es.length ∧ Hid (s = k * H) ∧ i = .int .i64 s ∧ s ≤ 10000 ∧ Hid (wr.ownsRow WB.heap.size 3 1 p k ((es.take k).map (Value.int .i64))) ∧ Hid (Below WB.heap.size WB wr)) (fun _ i _ => n + 1 - (intOf i).toNat)
  case atStart => exact ⟨0, 0, Nat.zero_le _, by show _ = _; omega, rfl, by omega, Lib.hid (World.ownsRow_nil _ _ _ _), Lib.hid (Below.refl _ _)⟩
  case round =>
    obtain ⟨k, s, hk, HS, rfl, hs4, HI, HB⟩ := hrel
    have HM := Lib.hid (R0.out.k.later HB.out)
    have HW := Lib.hid (R0.out.b.trans (HB.out.mono R0.out.b.size))
    obtain ⟨A2, cap2, hp, _, _⟩ := rd_of_own HI.out
    subst hp
    obtain ⟨m0, m1, m2, m3, _⟩ := bk4 HM.out
    have hkl := HKL.out
    have w1 : IntKind.i64.wrap ((s : Int) + L) = ((s + L : Nat) : Int) := by rw [show (s : Int) + L = ((s + L : Nat) : Int) by omega]; exact IntWalk.i64_in _ (by omega)
    have w2 : IntKind.i64.wrap ((s : Int) + H) = ((s + H : Nat) : Int) := by rw [show (s : Int) + H = ((s + H : Nat) : Int) by omega]; exact IntWalk.i64_in _ (by omega)
    by_cases hlt : k < es.length
    · have hc := (HK.out k).1 hlt
      rw [← HS.out] at hc
      have hcI : ((s + L : Nat) : Int) ≤ (n : Int) := by omega
      have HSN := Lib.hid (HST.out k hlt)
      rw [← HS.out] at HSN
      obtain ⟨sL, hsL⟩ : ∃ t : Nat, s + L = t := ⟨_, rfl⟩
      rw [hsL] at w1 hc hcI
      obtain ⟨sH, hsH⟩ : ∃ t : Nat, s + H = t := ⟨_, rfl⟩
      rw [hsH] at w2
      have HSH := Lib.hid hsH
      have HSL := Lib.hid hsL
      have hsH4 : sH ≤ 10000 := by omega
      have hsHs : s < sH := by omega
      have hsn : s ≤ sL := by omega
      clear hsL hsH
      go_wp2
      go_loopw [7, 8] (fun q i wq => ∃ j r : Nat, j ≤ L ∧ Hid (r = s + j) ∧ r ≤ sL ∧ i = .int .i64 r ∧ q = .int .i64 (sqS ((xs.drop s).take j)) ∧ Hid (∃ m, wq = wr.drewN m)) (fun _ i _ => n + 1 - (intOf i).toNat)
      case atStart => exact ⟨0, s, Nat.zero_le _, by show _ = _; omega, hsn, rfl, by rw [enA_zero], ⟨0, rfl⟩⟩
      case round =>
        obtain ⟨j, r, hj, HRJ, hrL, rfl, rfl, HD⟩ := hrel
        obtain ⟨m, rfl⟩ := HD.out
        have m0' : (wr.drewN m).cell? ⟨w.heap.size, 0, none⟩ = some (.int .i64 L) := m0
        by_cases hjl : r < sL
        · have hrI : (r : Int) < (sL : Int) := by omega
          have hrn : r < n := by omega
          have hrnI : (r : Int) < (n : Int) := by omega
          have hr0 : (0 : Int) ≤ (r : Int) := by omega
          have hjL : j < L := by have := HRJ.out; have := HSL.out; omega
          obtain ⟨ad, ha, _, hcx⟩ := (HR.out.below HW.out).2 (by omega)
          subst ha
          have hcr := hcx r hrn
          have hcr' : (wr.drewN m).cell? (ad.add r) = some (.int .i64 (xs.getD r 0)) := hcr
          have HSJ := Lib.hid (HJS.out s j (by have := HRJ.out; omega))
          rw [← HRJ.out] at HSJ
          have hxb := HXS.out r hrn
          have hqb := HJB.out s j (by omega)
          obtain ⟨x, hx⟩ : ∃ x, xs.getD r 0 = x := ⟨_, rfl⟩
          rw [hx] at hcr hcr' HSJ hxb
          obtain ⟨q, hq⟩ : ∃ q, sqS ((xs.drop s).take j) = q := ⟨_, rfl⟩
          rw [hq] at HSJ hqb ⊢
          have hsq := sq_bd hxb
          obtain ⟨y, hy⟩ : ∃ y, x * x = y := ⟨_, rfl⟩
          have w3 : IntKind.i64.wrap (x * x) = y := by rw [← hy]; exact IntWalk.i64_in _ (by omega)
          rw [hy] at hsq HSJ
          have w4 : IntKind.i64.wrap (q + y) = q + y := IntWalk.i64_in _ (by omega)
          clear hcx hx hq hy
          go_wp2
          go_quiet (fail)
          go_wp2
          go_roundw
          case rel => exact ⟨j + 1, r + 1, by omega, by show _ = _; rw [HRJ.out]; omega, by omega, by go_num, by rw [HSJ.out], ⟨_, by first | rfl | exact World.drewN_drewN _ _ _⟩⟩
          case measure => simp only [intOf]; omega
        · have hrI : ¬ (r : Int) < (sL : Int) := by omega
          obtain rfl : j = L := by have := HRJ.out; have := HSL.out; omega
          have hqb := HJB.out s j (by omega)
          obtain ⟨z, hz⟩ : ∃ z, sqS ((xs.drop s).take j) = z := ⟨_, rfl⟩
          rw [hz] at HSN hqb ⊢
          have HI2 := Lib.hid (own_drewN HI.out m)
          have HB2 := Lib.hid (blw_drewN HB.out m)
          obtain ⟨wq, hwq⟩ : ∃ W, wr.drewN m = W := ⟨_, rfl⟩
          rw [hwq] at m0' HI2 HB2 ⊢
          clear hz hwq m0 m1 m2 m3
          go_wp2_with (at_builtin; refine wpList_append_own _ rfl (.tmp 40) (.tmp 42) 43 rfl WB.heap.size 3 i0 _ 1 8 Try.underlying43 hi0 hza hzb hzc rfl (by decide) _ _ _ rfl (HI2.out.alloc _) ⟨wq.heap.size, 0, none⟩ 1 1 [.int .i64 (z)] rfl rfl (cell_one_new _ _ _) (by simp [Value.oneCell']) (by simp only [maxLen]; omega) (by omega) (by have := HB2.out.size; simp; omega) ?_)
          intro v w4 hown' hgrow _
          have HB4 : Hid (Below WB.heap.size WB w4) := ((HB2.out).alloc (HB2.out).size (.cells #[.int .i64 (z)] 3)).grown hgrow (by have := HB2.out.size; simp; omega) (fun z e => ((HI2.out.alloc (.cells #[.int .i64 (z)] 3)).lt z e).1)
          clear hgrow
          have HO4 : Hid (w4.ownsRow WB.heap.size 3 1 v (k + 1) ((es.take (k + 1)).map (Value.int .i64))) := by
            show World.ownsRow _ _ _ _ _ _ _
            rw [HSN.out, List.map_append, List.map_take]
            exact hown'
          obtain ⟨n0, n1, n2, n3, _⟩ := bk4 (R0.out.k.later HB4.out)
          clear hown' m0'
          go_wp2
          go_roundw
          case rel => exact ⟨k + 1, sH, by omega, by show _ = _; rw [← HSH.out, HS.out, Nat.succ_mul], by first | rfl | go_num, by omega, HO4, HB4⟩
          case measure => simp only [intOf]; omega
    · have hc : ¬ k * H + L ≤ n := fun h => hlt ((HK.out k).2 h)
      rw [← HS.out] at hc
      have hcI : ¬ ((s + L : Nat) : Int) ≤ (n : Int) := by omega
      obtain rfl : k = es.length := by omega
      go_wp2
      go_ret
      refine ⟨⟨_, rfl, ?_⟩, HW.out⟩
      have h := HI.out
      rw [List.take_of_length_le (Nat.le_refl _)] at h
      exact ownMono h R0.out.b.size

end Go.Proofs.Ytccoflhoggpgoaa

namespace Go.Proofs.Ytccoflhoggpgoaa
open Go.RowKit

open Go.Shelf

theorem RdI.dn {w : World} {A : Option Addr} {n : Nat} {xs : List Int} (h : RdI w A n xs) (m : Nat) : RdI (w.drewN m) A n xs := h
theorem Bk.dn {w : World} {g : Nat} {t : TypeId} {cs : Array Value} (h : Bk w g t cs) (m : Nat) : Bk (w.drewN m) g t cs := h

set_option maxRecDepth 100000 in
set_option maxHeartbeats 4000000 in
theorem refGated_any (L H : Nat) (G P : Int) (B : Option Addr) (nx c : Nat) (xs : List Int) (w : World) (hr : RdI w B nx xs) (hn : nx ≤ 200) (hnc : nx ≤ c) (hL : 0 < L ∧ L ≤ 50) (hH : 0 < H ∧ H ≤ 50) (hs : small xs) (hG : 0 ≤ G ∧ G ≤ 1073676289) (hP : 0 ≤ P ∧ P ≤ 100) :
    Calls Try.prog 37 #[.agg #[.int .i64 L, .int .i64 H, .int .i64 G, .int .i64 P], .slice B nx c] w (OwnS w (ctL (G * L) P (esL xs L H))) := by
  obtain ⟨i0, hi0, hza, hzb, hzc⟩ := info_parts intInfo'
  have R0 := Lib.hid (OneB.start w 42 #[.int .i64 L, .int .i64 H, .int .i64 G, .int .i64 P])
  have CE := Lib.hid (refEnergies_any L H G P B nx c xs _ (hr.below R0.out.b) hn hnc hL hH hs)
  have hes : enOk (esL xs L H) := ⟨by rw [esL_len]; have := kN_le (n := xs.length) hL.1 hH.1; have := hr.1; omega, esL_bd hs hL.2⟩
  obtain ⟨es, hee⟩ : ∃ es, esL xs L H = es := ⟨_, rfl⟩
  rw [hee] at CE hes ⊢
  clear hee hr hs
  obtain ⟨n, HLN⟩ : ∃ n, Hid (es.length = n) := ⟨_, rfl⟩
  have hn2 : n ≤ 200 := by have := hes.1; have := HLN.out; omega
  have HES := Lib.hid hes
  have HFN : Hid (cnN (G * L) (es.take n) = cnN (G * L) es ∧ cnS (G * L) (es.take n) = cnS (G * L) es) := by rw [List.take_of_length_le (by rw [HLN.out]; exact Nat.le_refl _)]; exact ⟨rfl, rfl⟩
  have HCL : Hid (ctL (G * L) P es = ctK (G * L) P es n) := by show _ = _; unfold ctL; rw [HLN.out]
  have HGK : Hid (∀ k, gkB (G * L) P es k = (decide (G * L ≤ es.getD k 0) && decide (P * cnS (G * L) es ≤ es.getD k 0 * 100 * cnN (G * L) es))) := fun k => rfl
  have hTb := mulB (a := G) (b := (L : Int)) 1073676289 50 (by omega) (by omega) (by omega) (by omega) 53683814450 (by omega)
  obtain ⟨T, hT⟩ : ∃ T, G * (L : Int) = T := ⟨_, rfl⟩
  have wT : IntKind.i64.wrap (G * (L : Int)) = T := by rw [← hT]; exact IntWalk.i64_in _ (by omega)
  rw [hT] at HFN HCL HGK hTb ⊢
  clear hT hes
  obtain ⟨V, hV⟩ : ∃ V, ctL T P es = V := ⟨_, rfl⟩
  rw [hV] at HCL ⊢
  clear hV
  go_enter Try.func37, Try.ntmps37
  have c0 := four R0.out.k
  go_wp2_with fail
  refine CE.out.mono ?_
  rintro e w1 ⟨⟨ve, rfl, hrow⟩, hb1⟩
  obtain ⟨A, ce, rfl, _, hrd⟩ := rd_of_own hrow
  rw [HLN.out] at hrd ⊢
  have R1 := Lib.hid (OneB.later hb1 R0.out)
  have HR := Lib.hid hrd
  clear hb1 hrow hrd CE R0 c0
  go_wp2
  go_loopw [6, 7, 8] (fun b a i wr => ∃ k : Nat, k ≤ n ∧ i = .int .i64 k ∧ a = .int .i64 (cnN T (es.take k)) ∧ b = .int .i64 (cnS T (es.take k)) ∧ Hid (∃ m, wr = w1.drewN m)) (fun _ _ i _ => n - (intOf i).toNat)
  case atStart => exact ⟨0, Nat.zero_le _, rfl, rfl, rfl, ⟨0, rfl⟩⟩
  case round =>
    obtain ⟨k, hk, rfl, rfl, rfl, HD⟩ := hrel
    obtain ⟨m, rfl⟩ := HD.out
    have mm := four R1.out.k
    by_cases hlt : k < n
    · have hkI : (k : Int) < (n : Int) := by omega
      have hk0 : (0 : Int) ≤ (k : Int) := by omega
      obtain ⟨ad, ha, _, hc⟩ := HR.out.2 (by omega)
      subst ha
      have hck := hc k hlt
      obtain ⟨⟨hb1, hb2⟩, hb3, hb4⟩ := cn_bd (HES.out.take k) T
      obtain ⟨hx1, hx2⟩ := HES.out.at (k := k) (by have := HLN.out; omega)
      have H1 := Lib.hid (cnN_snoc T (es.take k) (es.getD k 0))
      have H2 := Lib.hid (cnS_snoc T (es.take k) (es.getD k 0))
      rw [← take_snoc (by have := HLN.out; omega)] at H1 H2
      obtain ⟨x, hx⟩ : ∃ x, es.getD k 0 = x := ⟨_, rfl⟩
      obtain ⟨a, ha⟩ : ∃ x, cnN T (es.take k) = x := ⟨_, rfl⟩
      obtain ⟨b, hb⟩ : ∃ x, cnS T (es.take k) = x := ⟨_, rfl⟩
      rw [hx] at hck hx1 hx2 H1 H2
      rw [ha] at hb1 hb2 H1 ⊢
      rw [hb] at hb3 hb4 H2 ⊢
      have w1' : IntKind.i64.wrap (a + 1) = a + 1 := IntWalk.i64_in _ (by omega)
      have w2 : IntKind.i64.wrap (b + x) = b + x := IntWalk.i64_in _ (by omega)
      clear hc hx ha hb
      by_cases hp : T ≤ x
      · rw [if_pos hp] at H1 H2
        go_wp2
        go_quiet (fail)
        go_wp2
        go_roundw
        case rel => exact ⟨k + 1, by omega, by go_num, by rw [H1.out], by rw [H2.out], ⟨_, by first | rfl | exact World.drewN_drewN _ _ _⟩⟩
        case measure => simp only [intOf]; omega
      · rw [if_neg hp] at H1 H2
        go_wp2
        go_quiet (fail)
        go_wp2
        go_roundw
        case rel => exact ⟨k + 1, by omega, by go_num, by rw [H1.out], by rw [H2.out], ⟨_, by first | rfl | exact World.drewN_drewN _ _ _⟩⟩
        case measure => simp only [intOf]; omega
    · obtain rfl : n = k := by omega
      have hkI : ¬ (n : Int) < (n : Int) := by omega
      rw [HFN.out.1, HFN.out.2]
      obtain ⟨⟨hb1, hb2⟩, hb3, hb4⟩ := cn_bd HES.out T
      obtain ⟨a, ha⟩ : ∃ x, cnN T es = x := ⟨_, rfl⟩
      obtain ⟨b, hb⟩ : ∃ x, cnS T es = x := ⟨_, rfl⟩
      rw [ha] at hb1 hb2 HGK ⊢
      rw [hb] at hb3 hb4 HGK ⊢
      have hm1 := mulB (a := P) (b := b) 100 10736762890000 (by omega) (by omega) (by omega) (by omega) 1073676289000000 (by omega)
      clear ha hb mm
      obtain ⟨pb, hpb⟩ : ∃ x, P * b = x := ⟨_, rfl⟩
      have w1' : IntKind.i64.wrap (P * b) = pb := by rw [← hpb]; exact IntWalk.i64_in _ (by omega)
      rw [hpb] at hm1 HGK
      clear hpb
      have R2 := Lib.hid (OneB.later (blw_drewN (Below.refl _ _) m) R1.out)
      have HR2 := Lib.hid (HR.out.dn m)
      obtain ⟨WB, hWB⟩ : ∃ W, w1.drewN m = W := ⟨_, rfl⟩
      rw [hWB] at R2 HR2 ⊢
      clear hWB R1 HR HD
      go_wp2
      go_loopw [9, 10] (fun p i wr => ∃ k q : Nat, k ≤ n ∧ i = .int .i64 k ∧ q ≤ k ∧ Hid ((ctK T P es k).length = q) ∧ Hid (wr.ownsRow WB.heap.size 3 1 p q ((ctK T P es k).map (Value.int .i64))) ∧ Hid (Below WB.heap.size WB wr)) (fun _ i _ => n - (intOf i).toNat)
      case atStart => exact ⟨0, 0, Nat.zero_le _, rfl, Nat.le_refl _, rfl, Lib.hid (World.ownsRow_nil _ _ _ _), Lib.hid (Below.refl _ _)⟩
      case round =>
        obtain ⟨k, q, hk, rfl, hqk, HQ, HI, HB⟩ := hrel
        obtain ⟨A2, cap2, hp2, _, _⟩ := rd_of_own HI.out
        subst hp2
        have HW := Lib.hid (R2.out.b.trans (HB.out.mono R2.out.b.size))
        by_cases hlt : k < n
        · have hkI : (k : Int) < (n : Int) := by omega
          have hk0 : (0 : Int) ≤ (k : Int) := by omega
          obtain ⟨ad, ha, _, hc⟩ := (HR2.out.below HB.out).2 (by omega)
          subst ha
          have hck := hc k hlt
          obtain ⟨hx1, hx2⟩ := HES.out.at (k := k) (by have := HLN.out; omega)
          have HG := Lib.hid (HGK.out k)
          have HST := Lib.hid (ctK_step T P es k)
          obtain ⟨x, hx⟩ : ∃ x, es.getD k 0 = x := ⟨_, rfl⟩
          rw [hx] at hck hx1 hx2 HG
          obtain ⟨m0, m1, m2, m3, _⟩ := bk4 (R2.out.k.later HB.out)
          have w2 : IntKind.i64.wrap (x * 100) = x * 100 := IntWalk.i64_in _ (by omega)
          have hm2 := mulB (a := x * 100) (b := a) 5368381445000 200 (by omega) (by omega) (by omega) (by omega) 1073676289000000 (by omega)
          obtain ⟨xa, hxa⟩ : ∃ z, x * 100 * a = z := ⟨_, rfl⟩
          have w3 : IntKind.i64.wrap (x * 100 * a) = xa := by rw [← hxa]; exact IntWalk.i64_in _ (by omega)
          rw [hxa] at hm2 HG
          clear hc hx hxa
          obtain ⟨gb, hgb⟩ : ∃ z, gkB T P es k = z := ⟨_, rfl⟩
          rw [hgb] at HG HST
          clear hgb
          by_cases hp : T ≤ x
          · rw [decide_eq_true hp] at HG
            by_cases hq : pb ≤ xa
            · have hqb : decide (pb ≤ xa) = true := decide_eq_true hq
              rw [hqb] at HG
              have hst := HST.out
              rw [show gb = true from HG.out, if_pos rfl] at hst
              have HSN := Lib.hid hst
              clear hst HST HG
              go_wp2
              go_quiet (fail)
              have HI2 := Lib.hid (own_drewN HI.out nq)
              have HB2 := Lib.hid (blw_drewN HB.out nq)
              obtain ⟨wd, hwd⟩ : ∃ W, wr.drewN nq = W := ⟨_, rfl⟩
              rw [hwd] at HI2 HB2 ⊢
              clear hwd m0 m1 m2 m3 hck
              go_wp2_with (at_builtin; refine wpList_append_own _ rfl (.tmp 68) (.tmp 70) 43 rfl WB.heap.size 3 i0 _ 1 8 Try.underlying43 hi0 hza hzb hzc rfl (by decide) _ _ _ rfl (HI2.out.alloc _) ⟨wd.heap.size, 0, none⟩ 1 1 [.int .i64 ((k : Int))] rfl rfl (cell_one_new _ _ _) (by simp [Value.oneCell']) (by simp only [maxLen]; omega) (by omega) (by have := HB2.out.size; simp; omega) ?_)
              intro v w4 hown' hgrow _
              have HB4 : Hid (Below WB.heap.size WB w4) := ((HB2.out).alloc (HB2.out).size (.cells #[.int .i64 ((k : Int))] 3)).grown hgrow (by have := HB2.out.size; simp; omega) (fun z e => ((HI2.out.alloc (.cells #[.int .i64 ((k : Int))] 3)).lt z e).1)
              clear hgrow
              have HO4 : Hid (w4.ownsRow WB.heap.size 3 1 v (q + 1) ((ctK T P es (k + 1)).map (Value.int .i64))) := by
                show World.ownsRow _ _ _ _ _ _ _
                rw [HSN.out, List.map_append]
                exact hown'
              clear hown'
              go_wp2
              go_roundw
              case rel => exact ⟨k + 1, q + 1, by omega, by go_num, by omega, by show _ = _; rw [HSN.out, List.length_append, HQ.out]; rfl, HO4, HB4⟩
              case measure => simp only [intOf]; omega
            · have hqb : decide (pb ≤ xa) = false := decide_eq_false hq
              rw [hqb] at HG
              have hst := HST.out
              rw [show gb = false from HG.out, if_neg (by simp)] at hst
              have HSN := Lib.hid hst
              clear hst HST HG
              go_wp2
              go_quiet (fail)
              go_wp2
              go_roundw
              case rel => exact ⟨k + 1, q, by omega, by go_num, by omega, by show _ = _; rw [HSN.out]; exact HQ.out, by show World.ownsRow _ _ _ _ _ _ _; rw [HSN.out]; exact own_drewN HI.out _, blw_drewN HB.out _⟩
              case measure => simp only [intOf]; omega
          · have hpb : decide (T ≤ x) = false := decide_eq_false hp
            rw [hpb] at HG
            have hst := HST.out
            rw [show gb = false from HG.out, if_neg (by simp)] at hst
            have HSN := Lib.hid hst
            clear hst HST HG
            go_wp2
            go_quiet (fail)
            go_wp2
            go_roundw
            case rel => exact ⟨k + 1, q, by omega, by go_num, by omega, by show _ = _; rw [HSN.out]; exact HQ.out, by show World.ownsRow _ _ _ _ _ _ _; rw [HSN.out]; exact own_drewN HI.out _, blw_drewN HB.out _⟩
            case measure => simp only [intOf]; omega
        · obtain rfl : n = k := by omega
          have hkI : ¬ (n : Int) < (n : Int) := by omega
          go_wp2
          go_ret
          refine ⟨⟨_, rfl, ?_⟩, HW.out⟩
          have h := HI.out
          rw [← HCL.out] at h
          have hl : V.length = q := by rw [HCL.out]; exact HQ.out
          rw [hl]
          exact ownMono h R2.out.b.size

end Go.Proofs.Ytccoflhoggpgoaa


namespace Go.Proofs.Ytccoflhoggpgoaa
open Go.RowKit

/-! ### floats at the example's numbers -/
theorem sizeF_128 (w : World) : Calls Try.prog 135 #[.float .f32 1124073472] w fun e w' => e = .returned (.float .f32 1124073472) ∧ w = w' := by
  have hn : ∀ W, (Op.unary .neg (.float .f32 1124073472)).run Try.prog W = .ok (.float .f32 3271557120) W := fun _ => by kernel_rfl
  have hm : ∀ ts t W, (Builtin.max_ ts t #[.float .f32 1124073472, .float .f32 3271557120]).run Try.prog W = .ok (.float .f32 1124073472) W := fun _ _ _ => by kernel_rfl
  go_enter Try.func135, Try.ntmps135
  go_wp2
  go_ret
  exact ⟨rfl, rfl⟩
theorem sizeF_17920 (w : World) : Calls Try.prog 135 #[.float .f32 1183580160] w fun e w' => e = .returned (.float .f32 1183580160) ∧ w = w' := by
  have hn : ∀ W, (Op.unary .neg (.float .f32 1183580160)).run Try.prog W = .ok (.float .f32 3331063808) W := fun _ => by kernel_rfl
  have hm : ∀ ts t W, (Builtin.max_ ts t #[.float .f32 1183580160, .float .f32 3331063808]).run Try.prog W = .ok (.float .f32 1183580160) W := fun _ _ _ => by kernel_rfl
  go_enter Try.func135, Try.ntmps135
  go_wp2
  go_ret
  exact ⟨rfl, rfl⟩
theorem sizeF_18432 (w : World) : Calls Try.prog 135 #[.float .f32 1183842304] w fun e w' => e = .returned (.float .f32 1183842304) ∧ w = w' := by
  have hn : ∀ W, (Op.unary .neg (.float .f32 1183842304)).run Try.prog W = .ok (.float .f32 3331325952) W := fun _ => by kernel_rfl
  have hm : ∀ ts t W, (Builtin.max_ ts t #[.float .f32 1183842304, .float .f32 3331325952]).run Try.prog W = .ok (.float .f32 1183842304) W := fun _ _ _ => by kernel_rfl
  go_enter Try.func135, Try.ntmps135
  go_wp2
  go_ret
  exact ⟨rfl, rfl⟩
theorem sampleAt_lo (A : Option Addr) (c : Nat) (w : World) : Calls Try.prog 148 #[.slice A 2 c, .int .i64 (-1)] w fun e w' => e = .returned (.float .f32 0) ∧ w = w' := by
  go_enter Try.func148, Try.ntmps148
  go_wp2
  go_ret
  exact ⟨rfl, rfl⟩
theorem sampleAt_hi (A : Option Addr) (c : Nat) (w : World) : Calls Try.prog 148 #[.slice A 2 c, .int .i64 2] w fun e w' => e = .returned (.float .f32 0) ∧ w = w' := by
  go_enter Try.func148, Try.ntmps148
  go_wp2
  go_ret
  exact ⟨rfl, rfl⟩
theorem conv128 (W : World) : (convert 3 156 (.int .i64 128)).run Try.prog W = .ok (.float .f32 1124073472) W := by kernel_rfl
theorem sampleAt_0 (g c : Nat) (w : World) (h : w.cell? ⟨g, 0, none⟩ = some (.int .i64 128)) : Calls Try.prog 148 #[.slice (some ⟨g, 0, none⟩) 2 c, .int .i64 0] w fun e w' => e = .returned (.float .f32 1124073472) ∧ w = w' := by
  have hc := fun W => conv128 W
  go_enter Try.func148, Try.ntmps148
  go_wp2
  go_ret
  exact ⟨rfl, rfl⟩
theorem sampleAt_1 (g c : Nat) (w : World) (h : w.cell? ⟨g, 1, none⟩ = some (.int .i64 128)) : Calls Try.prog 148 #[.slice (some ⟨g, 0, none⟩) 2 c, .int .i64 1] w fun e w' => e = .returned (.float .f32 1124073472) ∧ w = w' := by
  have hc := fun W => conv128 W
  go_enter Try.func148, Try.ntmps148
  go_wp2
  go_ret
  exact ⟨rfl, rfl⟩
def sam4 : Array Value := #[.float .f32 0, .float .f32 1124073472, .float .f32 1124073472, .float .f32 0]
def wgt0 : Array Value := #[.float .f32 3235905536, .float .f32 1121058816, .float .f32 1108082688, .float .f32 3231711232]
def sums0 : List Value := [.float .f32 0, .float .f32 0, .float .f32 1179779072, .float .f32 1183580160, .float .f32 1183580160]
set_option maxRecDepth 100000 in
set_option maxHeartbeats 2000000 in
theorem weighted0_any (w : World) : Calls Try.prog 149 #[.agg #[.float .f32 3235905536, .float .f32 1121058816, .float .f32 1108082688, .float .f32 3231711232], .agg #[.float .f32 0, .float .f32 1124073472, .float .f32 1124073472, .float .f32 0]] w fun e w' => e = .returned (.float .f32 1183580160) ∧ Below w.heap.size w w' := by
  have hm0 : ∀ W, (binOp .mul 156 (.float .f32 3235905536) (.float .f32 0)).run Try.prog W = .ok (.float .f32 2147483648) W := fun _ => by kernel_rfl
  have ha0 : ∀ W, (binOp .add 156 (.float .f32 0) (.float .f32 2147483648)).run Try.prog W = .ok (.float .f32 0) W := fun _ => by kernel_rfl
  have hm1 : ∀ W, (binOp .mul 156 (.float .f32 1121058816) (.float .f32 1124073472)).run Try.prog W = .ok (.float .f32 1179779072) W := fun _ => by kernel_rfl
  have ha1 : ∀ W, (binOp .add 156 (.float .f32 0) (.float .f32 1179779072)).run Try.prog W = .ok (.float .f32 1179779072) W := fun _ => by kernel_rfl
  have hm2 : ∀ W, (binOp .mul 156 (.float .f32 1108082688) (.float .f32 1124073472)).run Try.prog W = .ok (.float .f32 1166802944) W := fun _ => by kernel_rfl
  have ha2 : ∀ W, (binOp .add 156 (.float .f32 1179779072) (.float .f32 1166802944)).run Try.prog W = .ok (.float .f32 1183580160) W := fun _ => by kernel_rfl
  have hm3 : ∀ W, (binOp .mul 156 (.float .f32 3231711232) (.float .f32 0)).run Try.prog W = .ok (.float .f32 2147483648) W := fun _ => by kernel_rfl
  have ha3 : ∀ W, (binOp .add 156 (.float .f32 1183580160) (.float .f32 2147483648)).run Try.prog W = .ok (.float .f32 1183580160) W := fun _ => by kernel_rfl
  have hi0 : ∀ W, (Instr.index 168 (.agg #[.float .f32 3235905536, .float .f32 1121058816, .float .f32 1108082688, .float .f32 3231711232]) (.int .i64 0)).run Try.prog W = .ok (.float .f32 3235905536) W := fun _ => by kernel_rfl
  have hi1 : ∀ W, (Instr.index 168 (.agg #[.float .f32 3235905536, .float .f32 1121058816, .float .f32 1108082688, .float .f32 3231711232]) (.int .i64 1)).run Try.prog W = .ok (.float .f32 1121058816) W := fun _ => by kernel_rfl
  have hi2 : ∀ W, (Instr.index 168 (.agg #[.float .f32 3235905536, .float .f32 1121058816, .float .f32 1108082688, .float .f32 3231711232]) (.int .i64 2)).run Try.prog W = .ok (.float .f32 1108082688) W := fun _ => by kernel_rfl
  have hi3 : ∀ W, (Instr.index 168 (.agg #[.float .f32 3235905536, .float .f32 1121058816, .float .f32 1108082688, .float .f32 3231711232]) (.int .i64 3)).run Try.prog W = .ok (.float .f32 3231711232) W := fun _ => by kernel_rfl
  go_enter Try.func149, Try.ntmps149
  go_wp2
  go_loop [5, 9] (fun s i => ∃ k : Nat, k ≤ 4 ∧ i = .int .i64 k ∧ s = sums0.getD k undef) (fun _ i => 4 - (intOf i).toNat)
  case atStart => exact ⟨0, by omega, rfl, rfl⟩
  case round =>
    obtain ⟨k, hk, rfl, rfl⟩ := hrel
    rcases (by omega : k = 0 ∨ k = 1 ∨ k = 2 ∨ k = 3 ∨ k = 4) with rfl | rfl | rfl | rfl | rfl
    · simp only [sums0, List.getD_cons_zero, List.getD_cons_succ]
      go_wp2
      go_round
      case rel => exact ⟨1, by omega, rfl, rfl⟩
      case measure => decide
    · simp only [sums0, List.getD_cons_zero, List.getD_cons_succ]
      go_wp2
      go_round
      case rel => exact ⟨2, by omega, rfl, rfl⟩
      case measure => decide
    · simp only [sums0, List.getD_cons_zero, List.getD_cons_succ]
      go_wp2
      go_round
      case rel => exact ⟨3, by omega, rfl, rfl⟩
      case measure => decide
    · simp only [sums0, List.getD_cons_zero, List.getD_cons_succ]
      go_wp2
      go_round
      case rel => exact ⟨4, by omega, rfl, rfl⟩
      case measure => decide
    · simp only [sums0, List.getD_cons_zero, List.getD_cons_succ]
      go_wp2
      go_ret
      exact ⟨rfl, by go_grown⟩
def wgt1 : Array Value := #[.float .f32 3238002688, .float .f32 1116733440, .float .f32 1116733440, .float .f32 3238002688]
def sums1 : List Value := [.float .f32 0, .float .f32 0, .float .f32 1175453696, .float .f32 1183842304, .float .f32 1183842304]
set_option maxRecDepth 100000 in
set_option maxHeartbeats 2000000 in
theorem weighted1_any (w : World) : Calls Try.prog 149 #[.agg #[.float .f32 3238002688, .float .f32 1116733440, .float .f32 1116733440, .float .f32 3238002688], .agg #[.float .f32 0, .float .f32 1124073472, .float .f32 1124073472, .float .f32 0]] w fun e w' => e = .returned (.float .f32 1183842304) ∧ Below w.heap.size w w' := by
  have hm0 : ∀ W, (binOp .mul 156 (.float .f32 3238002688) (.float .f32 0)).run Try.prog W = .ok (.float .f32 2147483648) W := fun _ => by kernel_rfl
  have ha0 : ∀ W, (binOp .add 156 (.float .f32 0) (.float .f32 2147483648)).run Try.prog W = .ok (.float .f32 0) W := fun _ => by kernel_rfl
  have hm1 : ∀ W, (binOp .mul 156 (.float .f32 1116733440) (.float .f32 1124073472)).run Try.prog W = .ok (.float .f32 1175453696) W := fun _ => by kernel_rfl
  have ha1 : ∀ W, (binOp .add 156 (.float .f32 0) (.float .f32 1175453696)).run Try.prog W = .ok (.float .f32 1175453696) W := fun _ => by kernel_rfl
  have hm2 : ∀ W, (binOp .mul 156 (.float .f32 1116733440) (.float .f32 1124073472)).run Try.prog W = .ok (.float .f32 1175453696) W := fun _ => by kernel_rfl
  have ha2 : ∀ W, (binOp .add 156 (.float .f32 1175453696) (.float .f32 1175453696)).run Try.prog W = .ok (.float .f32 1183842304) W := fun _ => by kernel_rfl
  have hm3 : ∀ W, (binOp .mul 156 (.float .f32 3238002688) (.float .f32 0)).run Try.prog W = .ok (.float .f32 2147483648) W := fun _ => by kernel_rfl
  have ha3 : ∀ W, (binOp .add 156 (.float .f32 1183842304) (.float .f32 2147483648)).run Try.prog W = .ok (.float .f32 1183842304) W := fun _ => by kernel_rfl
  have hi0 : ∀ W, (Instr.index 168 (.agg #[.float .f32 3238002688, .float .f32 1116733440, .float .f32 1116733440, .float .f32 3238002688]) (.int .i64 0)).run Try.prog W = .ok (.float .f32 3238002688) W := fun _ => by kernel_rfl
  have hi1 : ∀ W, (Instr.index 168 (.agg #[.float .f32 3238002688, .float .f32 1116733440, .float .f32 1116733440, .float .f32 3238002688]) (.int .i64 1)).run Try.prog W = .ok (.float .f32 1116733440) W := fun _ => by kernel_rfl
  have hi2 : ∀ W, (Instr.index 168 (.agg #[.float .f32 3238002688, .float .f32 1116733440, .float .f32 1116733440, .float .f32 3238002688]) (.int .i64 2)).run Try.prog W = .ok (.float .f32 1116733440) W := fun _ => by kernel_rfl
  have hi3 : ∀ W, (Instr.index 168 (.agg #[.float .f32 3238002688, .float .f32 1116733440, .float .f32 1116733440, .float .f32 3238002688]) (.int .i64 3)).run Try.prog W = .ok (.float .f32 3238002688) W := fun _ => by kernel_rfl
  go_enter Try.func149, Try.ntmps149
  go_wp2
  go_loop [5, 9] (fun s i => ∃ k : Nat, k ≤ 4 ∧ i = .int .i64 k ∧ s = sums1.getD k undef) (fun _ i => 4 - (intOf i).toNat)
  case atStart => exact ⟨0, by omega, rfl, rfl⟩
  case round =>
    obtain ⟨k, hk, rfl, rfl⟩ := hrel
    rcases (by omega : k = 0 ∨ k = 1 ∨ k = 2 ∨ k = 3 ∨ k = 4) with rfl | rfl | rfl | rfl | rfl
    · simp only [sums1, List.getD_cons_zero, List.getD_cons_succ]
      go_wp2
      go_round
      case rel => exact ⟨1, by omega, rfl, rfl⟩
      case measure => decide
    · simp only [sums1, List.getD_cons_zero, List.getD_cons_succ]
      go_wp2
      go_round
      case rel => exact ⟨2, by omega, rfl, rfl⟩
      case measure => decide
    · simp only [sums1, List.getD_cons_zero, List.getD_cons_succ]
      go_wp2
      go_round
      case rel => exact ⟨3, by omega, rfl, rfl⟩
      case measure => decide
    · simp only [sums1, List.getD_cons_zero, List.getD_cons_succ]
      go_wp2
      go_round
      case rel => exact ⟨4, by omega, rfl, rfl⟩
      case measure => decide
    · simp only [sums1, List.getD_cons_zero, List.getD_cons_succ]
      go_wp2
      go_ret
      exact ⟨rfl, by go_grown⟩
def wgt2 : Array Value := #[.float .f32 3231711232, .float .f32 1108082688, .float .f32 1121058816, .float .f32 3235905536]
def sums2 : List Value := [.float .f32 0, .float .f32 0, .float .f32 1166802944, .float .f32 1183580160, .float .f32 1183580160]
set_option maxRecDepth 100000 in
set_option maxHeartbeats 2000000 in
theorem weighted2_any (w : World) : Calls Try.prog 149 #[.agg #[.float .f32 3231711232, .float .f32 1108082688, .float .f32 1121058816, .float .f32 3235905536], .agg #[.float .f32 0, .float .f32 1124073472, .float .f32 1124073472, .float .f32 0]] w fun e w' => e = .returned (.float .f32 1183580160) ∧ Below w.heap.size w w' := by
  have hm0 : ∀ W, (binOp .mul 156 (.float .f32 3231711232) (.float .f32 0)).run Try.prog W = .ok (.float .f32 2147483648) W := fun _ => by kernel_rfl
  have ha0 : ∀ W, (binOp .add 156 (.float .f32 0) (.float .f32 2147483648)).run Try.prog W = .ok (.float .f32 0) W := fun _ => by kernel_rfl
  have hm1 : ∀ W, (binOp .mul 156 (.float .f32 1108082688) (.float .f32 1124073472)).run Try.prog W = .ok (.float .f32 1166802944) W := fun _ => by kernel_rfl
  have ha1 : ∀ W, (binOp .add 156 (.float .f32 0) (.float .f32 1166802944)).run Try.prog W = .ok (.float .f32 1166802944) W := fun _ => by kernel_rfl
  have hm2 : ∀ W, (binOp .mul 156 (.float .f32 1121058816) (.float .f32 1124073472)).run Try.prog W = .ok (.float .f32 1179779072) W := fun _ => by kernel_rfl
  have ha2 : ∀ W, (binOp .add 156 (.float .f32 1166802944) (.float .f32 1179779072)).run Try.prog W = .ok (.float .f32 1183580160) W := fun _ => by kernel_rfl
  have hm3 : ∀ W, (binOp .mul 156 (.float .f32 3235905536) (.float .f32 0)).run Try.prog W = .ok (.float .f32 2147483648) W := fun _ => by kernel_rfl
  have ha3 : ∀ W, (binOp .add 156 (.float .f32 1183580160) (.float .f32 2147483648)).run Try.prog W = .ok (.float .f32 1183580160) W := fun _ => by kernel_rfl
  have hi0 : ∀ W, (Instr.index 168 (.agg #[.float .f32 3231711232, .float .f32 1108082688, .float .f32 1121058816, .float .f32 3235905536]) (.int .i64 0)).run Try.prog W = .ok (.float .f32 3231711232) W := fun _ => by kernel_rfl
  have hi1 : ∀ W, (Instr.index 168 (.agg #[.float .f32 3231711232, .float .f32 1108082688, .float .f32 1121058816, .float .f32 3235905536]) (.int .i64 1)).run Try.prog W = .ok (.float .f32 1108082688) W := fun _ => by kernel_rfl
  have hi2 : ∀ W, (Instr.index 168 (.agg #[.float .f32 3231711232, .float .f32 1108082688, .float .f32 1121058816, .float .f32 3235905536]) (.int .i64 2)).run Try.prog W = .ok (.float .f32 1121058816) W := fun _ => by kernel_rfl
  have hi3 : ∀ W, (Instr.index 168 (.agg #[.float .f32 3231711232, .float .f32 1108082688, .float .f32 1121058816, .float .f32 3235905536]) (.int .i64 3)).run Try.prog W = .ok (.float .f32 3235905536) W := fun _ => by kernel_rfl
  go_enter Try.func149, Try.ntmps149
  go_wp2
  go_loop [5, 9] (fun s i => ∃ k : Nat, k ≤ 4 ∧ i = .int .i64 k ∧ s = sums2.getD k undef) (fun _ i => 4 - (intOf i).toNat)
  case atStart => exact ⟨0, by omega, rfl, rfl⟩
  case round =>
    obtain ⟨k, hk, rfl, rfl⟩ := hrel
    rcases (by omega : k = 0 ∨ k = 1 ∨ k = 2 ∨ k = 3 ∨ k = 4) with rfl | rfl | rfl | rfl | rfl
    · simp only [sums2, List.getD_cons_zero, List.getD_cons_succ]
      go_wp2
      go_round
      case rel => exact ⟨1, by omega, rfl, rfl⟩
      case measure => decide
    · simp only [sums2, List.getD_cons_zero, List.getD_cons_succ]
      go_wp2
      go_round
      case rel => exact ⟨2, by omega, rfl, rfl⟩
      case measure => decide
    · simp only [sums2, List.getD_cons_zero, List.getD_cons_succ]
      go_wp2
      go_round
      case rel => exact ⟨3, by omega, rfl, rfl⟩
      case measure => decide
    · simp only [sums2, List.getD_cons_zero, List.getD_cons_succ]
      go_wp2
      go_round
      case rel => exact ⟨4, by omega, rfl, rfl⟩
      case measure => decide
    · simp only [sums2, List.getD_cons_zero, List.getD_cons_succ]
      go_wp2
      go_ret
      exact ⟨rfl, by go_grown⟩

end Go.Proofs.Ytccoflhoggpgoaa

namespace Go.Proofs.Ytccoflhoggpgoaa
open Go.RowKit

open Go.Shelf
attribute [local go_sem] Oper.semAt_some

/-- The law for a loop whose one variable is no box: what the frame is, by the slots. -/
theorem wpIn_rangeFunc_one {F : Fence} {n : Nat} {P : Program} {α : Type} {g : Operand} {p : Tmp} {assign body : Code} {Q : Exit → Act → World → Prop} {a : Act} {w : World}
    (hro : F.round = none) (h1 : 1 ≤ n) {gf : Nat} {lb : Array Value} (hg : a.eval g = .func (.func gf) #[] lb) (hFg : F.fn gf) (eg : ∀ args w, (callFunc gf args).run P w = .ok (.enter gf args) w)
    (enc : α → Value) {Kp : World → World → Prop} {S Sp : List α → Prop} {N : Nat} {w0 : World} (hseq : SeqStopsK F (n - 1) P gf lb (fun x => #[enc x]) Kp S Sp N w0)
    (hKt : ∀ {A B C : World}, Kp A B → Kp B C → Kp A C) (hKb : ∀ (W : World) (l : Nat) (o o' : Obj), w.heap.size ≤ l → W.heap[l]? = some o → o.isCells = false → o.isWalk = false → Kp W (W.putObj l o')) (hb0 : Below w0.heap.size w0 w)
    (q : Tmp)
    (I : List α → World → Prop) (Ix : Code → List α → World → Prop) (hI : OwnFrom w.heap.size I) (hIx : ∀ c, OwnFrom w.heap.size (Ix c)) (h0 : I [] w)
    (hassign : ∀ (l : Nat) (x : α) (W : World) (K : Act → World → Prop), K { tmps := (a.tmps.setIfInBounds p (enc x)).setIfInBounds q (enc x), defers := [] } W →
      assign.wpIn (F.inRound l) (n - 1 - 1) P (Exit.then K (fun _ _ _ => False)) { tmps := a.tmps.setIfInBounds p (enc x), defers := [] } W)
    (hbody : ∀ (l : Nat) (pre : List α) (x : α) (W : World), I pre W → pre.length < N → body.wpIn (F.inRound l) (n - 1 - 1) P (ownPostG w.heap.size Kp I Ix (pre ++ [x]) W) { tmps := (a.tmps.setIfInBounds p (enc x)).setIfInBounds q (enc x), defers := [] } W)
    (hdone : ∀ (D : Nat) (xs : List α) (W : World), w.heap.size ≤ D → S xs → I xs W → W.heap[D]? = some (.deferred (some [])) → Q .normal { a with defers := { target := .collected D, args := #[] } :: a.defers } W)
    (hstop : ∀ (D : Nat) (c : Code) (pre : List α) (W : World), w.heap.size ≤ D → Sp pre → Ix c pre W → W.heap[D]? = some (.deferred (some [])) → c.wpIn F n P Q { a with defers := { target := .collected D, args := #[] } :: a.defers } W) :
    (Code.rangeFunc g #[p] assign body).wpIn F n P Q a w :=
  wpIn_rangeFunc_ownG hro h1 hg hFg eg hseq hKt hKb hb0 (fun _ => rfl) I Ix hI hIx h0 (fun x => { tmps := (a.tmps.setIfInBounds p (enc x)).setIfInBounds q (enc x), defers := [] })
    (fun l x W K hK => by simpa using hassign l x W K hK) hbody hdone hstop

theorem grown_of_below {W W' : World} (h : Below W.heap.size W W') : W.grownBy W' none := ⟨h.os, h.tape, h.output, h.size, fun k hk _ => h.block k hk⟩

theorem bk_grown {X Y : World} {row : Option Nat} {B : Nat} {T : TypeId} {cs : Array Value} (h : Bk X B T cs) (hg : X.grownBy Y row) (hr : ∀ r, row = some r → ∃ o : Obj, X.heap[r]? = some o ∧ o.isCells = false) : Bk Y B T cs := by
  refine (hg.block B h.lt (fun e => ?_)).trans h
  obtain ⟨o, ho, hc⟩ := hr B e.symm
  rw [h.heap] at ho; cases ho; cases hc

theorem range_takeT {N k : Nat} (h : k < N) : (List.range N).take (k + 1) = (List.range N).take k ++ [k] := by
  rw [List.take_range, List.take_range, Nat.min_eq_left (by omega), Nat.min_eq_left (by omega), List.range_succ]

theorem run_store_float (P : Program) (w : World) (a : Addr) (m : Mode) (k : FloatKind) (b : Nat) : (store a (.float k b) m).run P w = stored P w a (.float k b) m := run_store P w a _ m rfl

end Go.Proofs.Ytccoflhoggpgoaa

namespace Go.Proofs.Ytccoflhoggpgoaa
open Go.RowKit

open Go.Shelf

variable {F : Fence} {n : Nat} {P : Program}

/-- What an iterator with blocks of its own (T) may do: new blocks, stores into T, draws. -/
structure Out (T : Nat → Prop) (A B : World) : Prop where
  os : B.os = A.os
  tape : B.tape = A.tape
  output : B.output = A.output
  size : A.heap.size ≤ B.heap.size
  block : ∀ k, k < A.heap.size → ¬ T k → B.heap[k]? = A.heap[k]?
theorem Out.refl (T : Nat → Prop) (A : World) : Out T A A := ⟨rfl, rfl, rfl, Nat.le_refl _, fun _ _ _ => rfl⟩
theorem Out.trans {T : Nat → Prop} {A B C : World} (h : Out T A B) (k : Out T B C) : Out T A C :=
  ⟨k.os.trans h.os, k.tape.trans h.tape, k.output.trans h.output, Nat.le_trans h.size k.size, fun i h1 h2 => (k.block i (Nat.lt_of_lt_of_le h1 h.size) h2).trans (h.block i h1 h2)⟩
theorem Out.of_below {T : Nat → Prop} {A B : World} (h : Below A.heap.size A B) : Out T A B := ⟨h.os, h.tape, h.output, h.size, fun k hk _ => h.block k hk⟩

/-- An iterator that stores into blocks of its own between two rounds, and hands on memory (M). Of bodies that never leave. -/
def SeqRunsM {α : Type} (F : Fence) (n : Nat) (P : Program) (g : Nat) (lb : Array Value) (encs : α → Array Value) (M : (Nat → Prop) → α → World → Prop) (S : List α → Prop) (N : Nat) (T0 : Nat → Prop) (w : World) : Prop :=
  ∀ (l : Nat) (J : (Nat → Prop) → List α → World → Prop) (W : World), Below w.heap.size w W →
    (∀ T s A, J T s A → ∀ r, T r → r < A.heap.size) →
    (∀ T s A o, J T s A → J (fun r => T r ∨ r = A.heap.size) s (A.alloc o)) →
    (∀ T s A B, J T s A → Out T A B → J T s B) →
    (∀ T pre x A, J T pre A → M T x A → pre.length < N → YieldAt F (n - 1) P l (encs x) A fun e A' => e = .returned (.bool true) ∧ J T (pre ++ [x]) A' ∧ (∀ r, T r → A'.heap[r]? = A.heap[r]?)) →
    J T0 [] W → CallsIn F n P g (#[.func (.yield l) #[] #[]] ++ lb) W fun e W' => (∃ v, e = .returned v) ∧ ∃ T xs, S xs ∧ J T xs W'

/-- How a round goes on. -/
def runPostM {α : Type} (T : Nat → Prop) (I : (Nat → Prop) → List α → World → Prop) (xs : List α) (W : World) : Exit → Act → World → Prop
  | .normal, _, W' => KeepsOthers W W' ∧ (∀ r, T r → W'.heap[r]? = W.heap[r]?) ∧ I T xs W'
  | _, _, _ => False

theorem wpIn_rangeFunc_runsM {α : Type} {g : Operand} {ps : Array Tmp} {assign body : Code} {Q : Exit → Act → World → Prop} {a : Act} {w : World}
    (hro : F.round = none) (h1 : 1 ≤ n) {gf : Nat} {lb : Array Value} (hg : a.eval g = .func (.func gf) #[] lb) (hFg : F.fn gf) (eg : ∀ args w, (callFunc gf args).run P w = .ok (.enter gf args) w)
    {encs : α → Array Value} {M : (Nat → Prop) → α → World → Prop} {S : List α → Prop} {N : Nat} {T0 : Nat → Prop} {w0 : World} (hseq : SeqRunsM F (n - 1) P gf lb encs M S N T0 w0) (hb0 : Below w0.heap.size w0 w) (hps : ∀ x, (encs x).size = ps.size)
    (hM : ∀ T x A l o o', M T x A → A.heap[l]? = some o → o.isCells = false → M T x (A.putObj l o'))
    (I : (Nat → Prop) → List α → World → Prop) (hsz : ∀ T s A, I T s A → ∀ r, T r → r < A.heap.size) (hnew : ∀ T s A o, I T s A → I (fun r => T r ∨ r = A.heap.size) s (A.alloc o))
    (hout : ∀ T s A B, I T s A → Out T A B → I T s B)
    (hobj : ∀ T s A l o o', I T s A → w.heap.size ≤ l → A.heap[l]? = some o → o.isCells = false → I T s (A.putObj l o'))
    (h0 : I T0 [] w) (a₁ : α → Act)
    (hassign : ∀ (l : Nat) (x : α) (W : World) (K : Act → World → Prop), K (a₁ x) W →
      assign.wpIn (F.inRound l) (n - 1 - 1) P (Exit.then K (fun _ _ _ => False)) { tmps := (ps.zip (encs x)).foldl (fun t (p, v) => t.setIfInBounds p v) a.tmps, defers := [] } W)
    (hbody : ∀ (l : Nat) (T : Nat → Prop) (pre : List α) (x : α) (W : World), I T pre W → M T x W → pre.length < N → body.wpIn (F.inRound l) (n - 1 - 1) P (runPostM T I (pre ++ [x]) W) (a₁ x) W)
    (hdone : ∀ (D : Nat) (T : Nat → Prop) (xs : List α) (W : World), w.heap.size ≤ D → S xs → I T xs W → W.heap[D]? = some (.deferred (some [])) → Q .normal { a with defers := { target := .collected D, args := #[] } :: a.defers } W) :
    (Code.rangeFunc g ps assign body).wpIn F n P Q a w := by
  refine wpIn_rangeFunc ?_
  intro fn hfn
  rw [hro]
  have hal : ∀ T s A o, I T s A → I T s (A.alloc o) := fun T s A o h => hout T s A _ h (Out.of_below ((Below.refl _ _).alloc (Nat.le_refl _) _))
  have hlD : ((w.alloc (.deferred (some []))).alloc (.loop { state := .ready, pending := none, fn, tmps := a.tmps, params := ps, assign, body, defers := w.heap.size })).heap[w.heap.size + 1]? = some (.loop { state := .ready, pending := none, fn, tmps := a.tmps, params := ps, assign, body, defers := w.heap.size }) := by
    have := World.alloc_heap_new (w.alloc (.deferred (some []))) (.loop { state := .ready, pending := none, fn, tmps := a.tmps, params := ps, assign, body, defers := w.heap.size })
    rwa [World.size_alloc] at this
  have hdD : ((w.alloc (.deferred (some []))).alloc (.loop { state := .ready, pending := none, fn, tmps := a.tmps, params := ps, assign, body, defers := w.heap.size })).heap[w.heap.size]? = some (.deferred (some [])) :=
    (Below.heap_alloc _ _ _ (by simp)).trans (World.alloc_heap_new w _)
  have hb1 : Below w0.heap.size w0 ((w.alloc (.deferred (some []))).alloc (.loop { state := .ready, pending := none, fn, tmps := a.tmps, params := ps, assign, body, defers := w.heap.size })) := hb0.trans ((((Below.refl _ w).alloc (Nat.le_refl _) _).alloc (by simp) _).mono hb0.size)
  have hI1 := hal _ _ _ (.loop { state := .ready, pending := none, fn, tmps := a.tmps, params := ps, assign, body, defers := w.heap.size }) (hal _ _ _ (.deferred (some [])) h0)
  have hent := run_enterLoop_outer (P := P) (w := w) fn a.tmps ps assign body
  obtain ⟨W1, hW1⟩ : ∃ W1, (w.alloc (.deferred (some []))).alloc (.loop { state := .ready, pending := none, fn, tmps := a.tmps, params := ps, assign, body, defers := w.heap.size }) = W1 := ⟨_, rfl⟩
  rw [hW1] at hlD hdD hb1 hI1 hent
  refine ⟨w.heap.size + 1, _, W1, { target := .fn (.func gf) lb, args := #[.func (.yield (w.heap.size + 1)) #[] #[]] }, W1, gf, #[.func (.yield (w.heap.size + 1)) #[] #[]] ++ lb, W1, hent, ?_, ?_, ?_, fun _ => h1, ?_⟩
  · simp only [resolve, hg]
    simp [go_sem]
  · intro f' hf'
    simp [Target.leads] at hf'
    subst hf'
    exact hFg
  · simp [invoke, go_sem, eg]
  · refine (hseq (w.heap.size + 1)
      (fun T pre W => I T pre W ∧ W.heap[w.heap.size + 1]? = some (.loop { state := .ready, pending := none, fn, tmps := a.tmps, params := ps, assign, body, defers := w.heap.size }) ∧ W.heap[w.heap.size]? = some (.deferred (some [])) ∧ ∀ r, T r → r ≠ w.heap.size + 1 ∧ r ≠ w.heap.size)
      W1 hb1 ?_ ?_ ?_ ?_ ⟨hI1, hlD, hdD, fun r hr => by have := hsz _ _ _ h0 r hr; omega⟩).mono ?_
    · exact fun T s A h => hsz T s A h.1
    · rintro T s A o ⟨hi, hl, hk, hT⟩
      have hlt := (Array.getElem?_eq_some_iff.1 hl).1
      refine ⟨hnew _ _ _ _ hi, (Below.heap_alloc _ _ _ hlt).trans hl, (Below.heap_alloc _ _ _ (by omega)).trans hk, ?_⟩
      rintro r (hr | rfl)
      · exact hT r hr
      · omega
    · rintro T s A B ⟨hi, hl, hk, hT⟩ hO
      have hlt := (Array.getElem?_eq_some_iff.1 hl).1
      exact ⟨hout _ _ _ _ hi hO, (hO.block _ hlt (fun h => (hT _ h).1 rfl)).trans hl, (hO.block _ (by omega) (fun h => (hT _ h).2 rfl)).trans hk, hT⟩
    · rintro T pre x W ⟨hi, hl, hk, hT⟩ hMx hlen
      have hlt : w.heap.size + 1 < W.heap.size := (Array.getElem?_eq_some_iff.1 hl).1
      refine ⟨fn, _, assign, body, run_yield hl (hps x), roundIn_of_wpIn hfn (hassign _ x W _ ⟨_, run_beginRound hl rfl, ?_⟩)⟩
      refine wpIn_mono (hbody _ T pre x _ (hobj _ _ _ _ _ _ hi (by omega) hl rfl) (hM _ _ _ _ _ _ hMx hl rfl) hlen) ?_
      rintro e a3 W3 hp
      cases e with
      | normal =>
        obtain ⟨hk3, hT3, hi3⟩ := hp
        have hl3 := hk3.same _ _ (World.putObj_heap_same hlt) rfl
        have hd3 := hk3.same _ _ ((World.putObj_heap_other (by omega)).trans hk) rfl
        refine ⟨_, _, run_endRound none hl3, rfl, ⟨hobj _ _ _ _ _ _ hi3 (by omega) hl3 rfl, World.putObj_heap_same (Array.getElem?_eq_some_iff.1 hl3).1, (World.putObj_heap_other (by omega)).trans hd3, hT⟩, ?_⟩
        intro r hr
        have := (hT r hr).1
        exact (World.putObj_heap_other (by omega)).trans ((hT3 r hr).trans (World.putObj_heap_other (by omega)))
      | _ => exact hp.elim
    · rintro e W2 ⟨⟨v, rfl⟩, T, xs, hS, hi, hl, hk, _⟩
      exact ⟨none, _, run_endLoop hl (by simp), hdone _ T xs _ (Nat.le_refl _) hS (hobj _ _ _ _ _ _ hi (by omega) hl rfl) ((World.putObj_heap_other (by omega)).trans hk)⟩

end Go.Proofs.Ytccoflhoggpgoaa


namespace Go.Proofs.Ytccoflhoggpgoaa
open Go.RowKit

/-! ### orders -/
/-- All orders that begin with some items, lexicographically: the reference's. -/
def ordX (n : Nat) : Nat → List Int → List (List Int)
  | 0, b => [b]
  | f + 1, b => (List.range n).flatMap fun (i : Nat) => if b.contains (Int.ofNat i) then [] else ordX n f (b ++ [Int.ofNat i])
def ords (n : Nat) : List (List Int) := ordX n n []
def swp (o : List Int) (i j : Nat) : List Int := (o.set i (o.getD j 0)).set j (o.getD i 0)
/-- A part from s on of m numbers, reversed by k exchanges. -/
def rvK (l : List Int) (s m : Nat) : Nat → List Int
  | 0 => l
  | k + 1 => swp (rvK l s m k) (s + k) (s + (m - 1 - k))
def ascI (o : List Int) : Nat → Option Nat
  | 0 => none
  | k + 1 => if o.getD k 0 > o.getD (k + 1) 0 then ascI o k else some k
def grI (o : List Int) (i : Nat) : Nat → Nat
  | 0 => 0
  | k + 1 => if o.getD (k + 1) 0 < o.getD i 0 then grI o i k else k + 1
/-- The next order. -/
def adv (o : List Int) : Option (List Int) :=
  match ascI o (o.length - 1) with
  | none => none
  | some i => some (rvK (swp o i (grI o i (o.length - 1))) (i + 1) (o.length - 1 - i) ((o.length - 1 - i) / 2))
def chainB : List (List Int) → Bool
  | [] => true
  | [a] => adv a == none
  | a :: b :: l => (adv a == some b) && chainB (b :: l)
theorem ords_chain : ∀ n, n < 7 → chainB (ords n) = true := by decide +kernel
theorem ords_head : ∀ n, n < 7 → (ords n).head? = some ((List.range n).map fun (i : Nat) => (i : Int)) := by decide +kernel
theorem ords_len : ∀ n, n < 7 → (ords n).length ≤ 720 ∧ 0 < (ords n).length ∧ (ords n).all (fun l => l.length == n && l.all (fun x => decide (0 ≤ x) && decide (x < n))) = true := by decide +kernel
theorem swp_length (o : List Int) (i j : Nat) : (swp o i j).length = o.length := by simp [swp]
theorem rvK_length (l : List Int) (s m k : Nat) : (rvK l s m k).length = l.length := by
  induction k with
  | zero => rfl
  | succ k ih => show (swp _ _ _).length = _; rw [swp_length, ih]
theorem chain_at : ∀ (L : List (List Int)) (k : Nat), chainB L = true → k < L.length → adv (L.getD k []) = (if k + 1 < L.length then some (L.getD (k + 1) []) else none)
  | [], k, _, h => absurd h (by simp)
  | [a], 0, h, _ => by simpa [chainB] using h
  | [a], k + 1, _, h => absurd h (by simp)
  | a :: b :: l, 0, h, _ => by
    have h1 : adv a = some b := by
      have := h
      simp [chainB] at this
      exact this.1
    simp [h1]
  | a :: b :: l, k + 1, h, hk => by
    have h1 : chainB (b :: l) = true := by
      have := h
      simp [chainB] at this
      exact this.2
    have := chain_at (b :: l) k h1 (by simpa using hk)
    simpa using this
theorem ords_next {n k : Nat} (hn : n < 7) (hk : k < (ords n).length) : adv ((ords n).getD k []) = (if k + 1 < (ords n).length then some ((ords n).getD (k + 1) []) else none) := chain_at _ _ (ords_chain n hn) hk
theorem ords_mem {n k : Nat} (hn : n < 7) (hk : k < (ords n).length) : ((ords n).getD k []).length = n ∧ ∀ x ∈ (ords n).getD k [], 0 ≤ x ∧ x < n := by
  have h := List.all_eq_true.1 (ords_len n hn).2.2 ((ords n).getD k []) (by rw [List.getD_eq_getElem?_getD, List.getElem?_eq_getElem hk, Option.getD_some]; exact List.getElem_mem _)
  simp at h
  refine ⟨by simpa using h.1, fun x hx => ?_⟩
  have := h.2 x (by simpa using hx)
  exact this

end Go.Proofs.Ytccoflhoggpgoaa

namespace Go.Proofs.Ytccoflhoggpgoaa
open Go.RowKit

open Go.Shelf

theorem swp_set (l : List Int) (i j : Nat) : swp l i j = (l.set i (l.getD j 0)).set j (l.getD i 0) := rfl
theorem Out.setCell (O : Nat) {A W : World} (h : Out (fun r => r = O) A W) (i : Nat) (v : Value) : Out (fun r => r = O) A (W.setCell ⟨O, i, none⟩ v) :=
  ⟨h.os, h.tape, h.output, by simpa using h.size, fun k h1 h2 => (heap_setCell_other W ⟨O, i, none⟩ k v (by simpa using h2)).trans (h.block k h1 h2)⟩
theorem Out.drew {T : Nat → Prop} {A W : World} (h : Out T A W) : Out T A W.drew := ⟨h.os, h.tape, h.output, h.size, h.block⟩
theorem Out.drewN {T : Nat → Prop} {A W : World} (h : Out T A W) (n : Nat) : Out T A (W.drewN n) := ⟨h.os, h.tape, h.output, h.size, h.block⟩
set_option maxRecDepth 100000 in
set_option maxHeartbeats 4000000 in
theorem reverse_any (O s m c : Nat) (l : List Int) (w : World) (hk : Bk w O 3 (iArr l)) (hs : s + m ≤ l.length) (hl : l.length ≤ 1000) :
    Calls Try.prog 151 #[.slice (some ⟨O, s, none⟩) m c] w fun e w' => e = .returned (.tuple #[]) ∧ Bk w' O 3 (iArr (rvK l s m (m / 2))) ∧ Out (fun r => r = O) w w' := by
  have HK := Lib.hid hk
  have HO := Lib.hid (Out.refl (fun r => r = O) w)
  have HL : Hid (∀ k, (rvK l s m k).length = l.length) := fun k => rvK_length l s m k
  clear hk
  have w0 : IntKind.i64.wrap ((m : Int) - 1) = (m : Int) - 1 := IntWalk.i64_in _ (by omega)
  go_enter Try.func151, Try.ntmps151
  go_wp2
  go_loopw [2, 3] (fun i j wr => ∃ (k : Nat) (κ : Int), k ≤ m / 2 ∧ i = .int .i64 k ∧ j = .int .i64 κ ∧ Hid (κ = (m : Int) - 1 - k) ∧ Hid (Bk wr O 3 (iArr (rvK l s m k))) ∧ Hid (Out (fun r => r = O) w wr)) (fun i _ _ => m - (intOf i).toNat)
  case atStart => exact ⟨0, (m : Int) - 1, by omega, rfl, rfl, by show _ = _; omega, HK, HO⟩
  case round =>
    obtain ⟨k, κ, hk, rfl, rfl, HKA, HB, HW⟩ := hrel
    have hκ := HKA.out
    by_cases hlt : k < m / 2
    · have hkI : (k : Int) < κ := by omega
      obtain ⟨j, hj⟩ : ∃ j : Nat, m - 1 - k = j := ⟨_, rfl⟩
      have hjκ : κ = (j : Int) := by omega
      subst hjκ
      have hjm : j < m := by omega
      have hkm : k < m := by omega
      have hkj : k < j := by omega
      have hll := HL.out k
      have HST : Hid (rvK l s m (k + 1) = swp (rvK l s m k) (s + k) (s + j)) := by show _ = _; rw [← hj]; rfl
      obtain ⟨L, hL⟩ : ∃ L, rvK l s m k = L := ⟨_, rfl⟩
      rw [hL] at hll HB HST
      have c1 : wr.cell? ⟨O, s + k, none⟩ = some (.int .i64 (L.getD (s + k) 0)) := by rw [HB.out.cell, iArr_at _ _ (by omega)]
      have c2 : wr.cell? ⟨O, s + j, none⟩ = some (.int .i64 (L.getD (s + j) 0)) := by rw [HB.out.cell, iArr_at _ _ (by omega)]
      have f1 : wr.frozen? ⟨O, s + k, none⟩ = false := HB.out.frozen (s + k)
      have f2 : wr.frozen? ⟨O, s + j, none⟩ = false := HB.out.frozen (s + j)
      have hne : s + k ≠ s + j := by omega
      have hjI : (j : Int) < (m : Int) := by omega
      have hkI2 : (k : Int) < (m : Int) := by omega
      have hk0 : (0 : Int) ≤ (k : Int) := by omega
      have hj0 : (0 : Int) ≤ (j : Int) := by omega
      have hw1 : IntKind.i64.wrap ((j : Int) - 1) = (j : Int) - 1 := IntWalk.i64_in _ (by omega)
      have HNB : Hid (Bk ((wr.setCell ⟨O, s + k, none⟩ (.int .i64 (L.getD (s + j) 0))).setCell ⟨O, s + j, none⟩ (.int .i64 (L.getD (s + k) 0))) O 3 (iArr (rvK l s m (k + 1)))) := by
        show Bk _ _ _ _
        rw [HST.out, swp_set, ← iArr_set, ← iArr_set]
        exact (HB.out.set_ (s + k) _).set_ (s + j) _
      have HNW := Lib.hid ((HW.out.setCell O (s + k) (.int .i64 (L.getD (s + j) 0))).setCell O (s + j) (.int .i64 (L.getD (s + k) 0)))
      obtain ⟨x, hx⟩ : ∃ x, L.getD (s + k) 0 = x := ⟨_, rfl⟩
      obtain ⟨y, hy⟩ : ∃ y, L.getD (s + j) 0 = y := ⟨_, rfl⟩
      rw [hx] at c1 HNB HNW
      rw [hy] at c2 HNB HNW
      clear hx hy hL hκ
      go_wp2
      go_region
      go_wp2
      go_roundw
      case rel => exact ⟨k + 1, (j : Int) - 1, by omega, by go_num, by first | rfl | go_num, by show _ = _; have := HKA.out; omega, HNB.out.drew, HNW.out.drew⟩
      case measure => simp only [intOf]; omega
    · have hκ2 : ¬ (k : Int) < κ := by omega
      obtain rfl : m / 2 = k := by omega
      clear hκ
      go_wp2
      exact bodyPost_end (v := .tuple #[]) (by simp [results, Try.results151, go_sem]) rfl ⟨rfl, HB.out, HW.out⟩

end Go.Proofs.Ytccoflhoggpgoaa

