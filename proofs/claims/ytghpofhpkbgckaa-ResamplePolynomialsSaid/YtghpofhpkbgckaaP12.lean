import Derived.Test.YtghpofhpkbgckaaE50
import Derived.Test.YtghpofhpkbgckaaE55
import Derived.Test.YtghpofhpkbgckaaE11
import Derived.Test.YtghpofhpkbgckaaE31

namespace Go.Proofs.Ytghpofhpkbgckaa
open Go.RowKit

/-! ### comparing by whole parts -/
def cmpK : Nat → Int → Int → Int → Int → Option Int
  | 0, _, _, _, _ => none
  | f + 1, n, d, m, k =>
    if (-1000000000000 ≤ n ∧ n ≤ 1000000000000) ∧ (0 < d ∧ d ≤ 1000000000000) ∧ (-1000000000000 ≤ m ∧ m ≤ 1000000000000) ∧ (0 < k ∧ k ≤ 1000000000000) then
      if n / d < m / k then some (-1)
      else if m / k < n / d then some 1
      else if n % d = 0 then (if m % k = 0 then some 0 else some (-1))
      else if m % k = 0 then some 1
      else cmpK f k (m % k) d (n % d)
    else none
theorem cmpK_step {f : Nat} {n d m k r : Int} (h : cmpK (f + 1) n d m k = some r) :
    ((-1000000000000 ≤ n ∧ n ≤ 1000000000000) ∧ (0 < d ∧ d ≤ 1000000000000) ∧ (-1000000000000 ≤ m ∧ m ≤ 1000000000000) ∧ (0 < k ∧ k ≤ 1000000000000)) ∧
    ((n / d < m / k ∧ r = -1) ∨ (m / k < n / d ∧ r = 1) ∨ (n / d = m / k ∧ ((n % d = 0 ∧ m % k = 0 ∧ r = 0) ∨ (n % d = 0 ∧ ¬ m % k = 0 ∧ r = -1) ∨ (¬ n % d = 0 ∧ m % k = 0 ∧ r = 1) ∨ (¬ n % d = 0 ∧ ¬ m % k = 0 ∧ cmpK f k (m % k) d (n % d) = some r)))) := by
  unfold cmpK at h
  by_cases hb : (-1000000000000 ≤ n ∧ n ≤ 1000000000000) ∧ (0 < d ∧ d ≤ 1000000000000) ∧ (-1000000000000 ≤ m ∧ m ≤ 1000000000000) ∧ (0 < k ∧ k ≤ 1000000000000)
  · rw [if_pos hb] at h
    refine ⟨hb, ?_⟩
    by_cases h1 : n / d < m / k
    · rw [if_pos h1] at h; injection h with h; exact .inl ⟨h1, h.symm⟩
    rw [if_neg h1] at h
    by_cases h2 : m / k < n / d
    · rw [if_pos h2] at h; injection h with h; exact .inr (.inl ⟨h2, h.symm⟩)
    rw [if_neg h2] at h
    have he : n / d = m / k := by omega
    refine .inr (.inr ⟨he, ?_⟩)
    by_cases h3 : n % d = 0
    · rw [if_pos h3] at h
      by_cases h4 : m % k = 0
      · rw [if_pos h4] at h; injection h with h; exact .inl ⟨h3, h4, h.symm⟩
      · rw [if_neg h4] at h; injection h with h; exact .inr (.inl ⟨h3, h4, h.symm⟩)
    · rw [if_neg h3] at h
      by_cases h4 : m % k = 0
      · rw [if_pos h4] at h; injection h with h; exact .inr (.inr (.inl ⟨h3, h4, h.symm⟩))
      · rw [if_neg h4] at h; exact .inr (.inr (.inr ⟨h3, h4, h⟩))
  · rw [if_neg hb] at h; cases h
set_option maxRecDepth 100000 in
set_option maxHeartbeats 2000000 in
theorem compare_any {f : Nat} {n d m k r : Int} (h : cmpK f n d m k = some r) (w : World) :
    Calls Try.prog 57 #[.int .i64 n, .int .i64 d, .int .i64 m, .int .i64 k] w fun e w' => e = .returned (.int .i64 r) ∧ w = w' := by
  have H := Lib.hid h
  clear h
  go_enter Try.func57, Try.ntmps57
  go_wp2
  go_loop [0, 1, 2, 3] (fun a b c e => ∃ (f : Nat) (n d m k : Int), a = .int .i64 n ∧ b = .int .i64 d ∧ c = .int .i64 m ∧ e = .int .i64 k ∧ Hid (cmpK f n d m k = some r)) (fun _ b _ e => (intOf b + intOf e).toNat)
  case atStart => exact ⟨f, n, d, m, k, rfl, rfl, rfl, rfl, H⟩
  case round =>
    clear H
    obtain ⟨f, n, d, m, k, rfl, rfl, rfl, rfl, HF⟩ := hrel
    cases f with
    | zero => have := HF.out; cases this
    | succ f =>
      obtain ⟨⟨hn, hd, hm, hk⟩, hc⟩ := cmpK_step HF.out
      have C1 := Lib.hid (fun W => floor_any n d (by omega) (by omega) W)
      have C2 := Lib.hid (fun W => floor_any m k (by omega) (by omega) W)
      have e1 := Int.mul_ediv_add_emod n d
      have e2 := Int.mul_ediv_add_emod m k
      have g1 : 0 ≤ n % d := Int.emod_nonneg n (by omega)
      have g2 : n % d < d := Int.emod_lt_of_pos n (by omega)
      have g3 : 0 ≤ m % k := Int.emod_nonneg m (by omega)
      have g4 : m % k < k := Int.emod_lt_of_pos m (by omega)
      rw [Int.mul_comm] at e1 e2
      obtain ⟨p, hp⟩ : ∃ p, n / d = p := ⟨_, rfl⟩
      obtain ⟨q, hq⟩ : ∃ q, m / k = q := ⟨_, rfl⟩
      obtain ⟨s, hs⟩ : ∃ s, n % d = s := ⟨_, rfl⟩
      obtain ⟨t, ht⟩ : ∃ t, m % k = t := ⟨_, rfl⟩
      rw [hp] at C1 e1 hc
      rw [hq] at C2 e2 hc
      rw [hs] at e1 g1 g2 hc
      rw [ht] at e2 g3 g4 hc
      have v1 : IntKind.i64.wrap (p * d) = p * d := IntWalk.i64_in _ (by omega)
      have v2 : IntKind.i64.wrap (q * k) = q * k := IntWalk.i64_in _ (by omega)
      have v3 : IntKind.i64.wrap (n - p * d) = s := by rw [show n - p * d = s by omega]; exact IntWalk.i64_in _ (by omega)
      have v4 : IntKind.i64.wrap (m - q * k) = t := by rw [show m - q * k = t by omega]; exact IntWalk.i64_in _ (by omega)
      clear hp hq hs ht e1 e2 HF
      rcases hc with ⟨h1, hr⟩ | ⟨h1, hr⟩ | ⟨h1, hc⟩
      · subst hr
        go_wp2_with fail
        refine (C1.out _).mono ?_
        rintro e w' ⟨rfl, rfl⟩
        go_wp2_with fail
        refine (C2.out _).mono ?_
        rintro e w' ⟨rfl, rfl⟩
        go_wp2
        go_ret
        exact ⟨rfl, rfl⟩
      · have h2 : ¬ p < q := by omega
        subst hr
        go_wp2_with fail
        refine (C1.out _).mono ?_
        rintro e w' ⟨rfl, rfl⟩
        go_wp2_with fail
        refine (C2.out _).mono ?_
        rintro e w' ⟨rfl, rfl⟩
        go_wp2
        go_ret
        exact ⟨rfl, rfl⟩
      · obtain rfl : p = q := h1
        rcases hc with ⟨h3, h4, hr⟩ | ⟨h3, h4, hr⟩ | ⟨h3, h4, hr⟩ | ⟨h3, h4, hr⟩
        · subst hr h3 h4
          go_wp2_with fail
          refine (C1.out _).mono ?_
          rintro e w' ⟨rfl, rfl⟩
          go_wp2_with fail
          refine (C2.out _).mono ?_
          rintro e w' ⟨rfl, rfl⟩
          go_wp2
          go_ret
          exact ⟨rfl, rfl⟩
        · have h5 : (t == 0) = false := by rw [beq_eq_false_iff_ne]; exact h4
          subst hr h3
          go_wp2_with fail
          refine (C1.out _).mono ?_
          rintro e w' ⟨rfl, rfl⟩
          go_wp2_with fail
          refine (C2.out _).mono ?_
          rintro e w' ⟨rfl, rfl⟩
          go_wp2
          go_ret
          exact ⟨rfl, rfl⟩
        · have h5 : (s == 0) = false := by rw [beq_eq_false_iff_ne]; exact h3
          subst hr h4
          go_wp2_with fail
          refine (C1.out _).mono ?_
          rintro e w' ⟨rfl, rfl⟩
          go_wp2_with fail
          refine (C2.out _).mono ?_
          rintro e w' ⟨rfl, rfl⟩
          go_wp2
          go_ret
          exact ⟨rfl, rfl⟩
        · have h5 : (s == 0) = false := by rw [beq_eq_false_iff_ne]; exact h3
          have h6 : (t == 0) = false := by rw [beq_eq_false_iff_ne]; exact h4
          have HR := Lib.hid hr
          clear hr
          go_wp2_with fail
          refine (C1.out _).mono ?_
          rintro e w' ⟨rfl, rfl⟩
          go_wp2_with fail
          refine (C2.out _).mono ?_
          rintro e w' ⟨rfl, rfl⟩
          go_wp2
          go_round
          case rel => exact ⟨f, k, t, d, s, rfl, rfl, rfl, rfl, HR⟩
          case measure => simp [intOf]; omega

end Go.Proofs.Ytghpofhpkbgckaa


namespace Go.Proofs.Ytghpofhpkbgckaa
open Go.RowKit

/-! ### polynomials -/
def chF (i : Nat) : Nat → Int
  | 0 => 1
  | j + 1 => (chF i j * ((i : Int) - j)).tdiv ((j : Int) + 1)
def bnF (q : Int) : Nat → Int
  | 0 => 1
  | j + 1 => bnF q j * (q - 64 * (j : Int))
theorem ch_bd : ∀ (i : Fin 8) (k : Fin 5), -100 ≤ chF i.val k.val ∧ chF i.val k.val ≤ 100 := by decide +kernel
/-- The sum of a sample, so far. -/
def pS (c : List Int) (i : Nat) : Nat → Int
  | 0 => 0
  | k + 1 => pS c i k + c.getD k 0 * chF i k
def pX (c : List Int) (m : Nat) : List Int := (List.range 8).map fun i => pS c i m
def chX (k : Nat) : List Int := (List.range 8).map fun i => chF i k
theorem pX_len (c : List Int) (m : Nat) : (pX c m).length = 8 := by simp [pX]
theorem pX_at (c : List Int) (m i : Nat) (h : i < 8) : (pX c m).getD i 0 = pS c i m := by simp [pX, h]
theorem pX_clmp (c : List Int) (m : Nat) (i : Int) : (pX c m).getD (clmp 8 i) 0 = pS c (clmp 8 i) m := pX_at c m _ (by unfold clmp; omega)
theorem chX_clmp (k : Nat) (i : Int) : (chX k).getD (clmp 8 i) 0 = chF (clmp 8 i) k := by
  have h : clmp 8 i < 8 := by unfold clmp; omega
  simp [chX, h]
theorem vsum_zero (ws : List Int) (c : List Int) (first : Int) : ∀ j, vsum ws (pX c 0) first j = 0
  | 0 => rfl
  | j + 1 => by
    show vsum ws (pX c 0) first j + ws.getD j 0 * (pX c 0).getD (clmp (pX c 0).length (first + j)) 0 = 0
    rw [vsum_zero ws c first j, pX_len, pX_clmp]
    simp [pS]
theorem vsum_lin (ws : List Int) (c : List Int) (m : Nat) (first : Int) : ∀ j, vsum ws (pX c (m + 1)) first j = vsum ws (pX c m) first j + c.getD m 0 * vsum ws (chX m) first j
  | 0 => by simp [vsum]
  | j + 1 => by
    show vsum ws (pX c (m + 1)) first j + ws.getD j 0 * (pX c (m + 1)).getD (clmp (pX c (m + 1)).length (first + j)) 0 = vsum ws (pX c m) first j + ws.getD j 0 * (pX c m).getD (clmp (pX c m).length (first + j)) 0 + c.getD m 0 * (vsum ws (chX m) first j + ws.getD j 0 * (chX m).getD (clmp (chX m).length (first + j)) 0)
    rw [vsum_lin ws c m first j, pX_len, pX_len, show (chX m).length = 8 by simp [chX], pX_clmp, pX_clmp, chX_clmp]
    show _ + ws.getD j 0 * (pS c (clmp 8 (first + j)) m + c.getD m 0 * chF (clmp 8 (first + j)) m) = _
    rw [Int.mul_add, Int.mul_add]
    have : ws.getD j 0 * (c.getD m 0 * chF (clmp 8 (first + j)) m) = c.getD m 0 * (ws.getD j 0 * chF (clmp 8 (first + j)) m) := by
      rw [← Int.mul_assoc, ← Int.mul_assoc, Int.mul_comm (ws.getD j 0)]
    omega
def V1 (k : Nat) (q : Int) : Int := vsum (wts1 (q % 64)) (chX k) (q / 64) 2
def V3 (k : Nat) (q : Int) : Int := vsum (wts3 (q % 64)) (chX k) (q / 64 - 1) 4
theorem vnum1_eq (c : List Int) (q : Int) : vnum1 (pX c 3) q = c.getD 0 0 * V1 0 q + c.getD 1 0 * V1 1 q + c.getD 2 0 * V1 2 q := by
  unfold vnum1 V1
  rw [vsum_lin, vsum_lin, vsum_lin, vsum_zero]
  omega
theorem vnum3_eq (c : List Int) (q : Int) : vnum3 (pX c 5) q = c.getD 0 0 * V3 0 q + c.getD 1 0 * V3 1 q + c.getD 2 0 * V3 2 q + c.getD 3 0 * V3 3 q + c.getD 4 0 * V3 4 q := by
  unfold vnum3 V3
  rw [vsum_lin, vsum_lin, vsum_lin, vsum_lin, vsum_lin, vsum_zero]
  omega
/-- The factors of the binomials over the unit. -/
def kF (q : Int) : Nat → Int
  | 0 => 24 * bnF q 0 * 16777216
  | 1 => 24 * bnF q 1 * 262144
  | 2 => 12 * bnF q 2 * 4096
  | 3 => 4 * bnF q 3 * 64
  | _ => 1 * bnF q 4 * 1
def rN1 (q : Int) : Int := frN (remF 1 (q % 64)) 8192
def rD1 (q : Int) : Int := frD (remF 1 (q % 64)) 8192
def rN3 (q : Int) : Int := frN (remF 3 (q % 64)) 402653184
def rD3 (q : Int) : Int := frD (remF 3 (q % 64)) 402653184
theorem key1 : ∀ i : Fin 320, V1 0 (64 + i.val) * 6291456 = kF (64 + i.val) 0 ∧ V1 1 (64 + i.val) * 6291456 = kF (64 + i.val) 1 ∧ V1 2 (64 + i.val) * 6291456 + rN1 (64 + i.val) * (402653184 : Int).tdiv (rD1 (64 + i.val)) = kF (64 + i.val) 2 := by decide +kernel
theorem key3 : ∀ i : Fin 320, V3 0 (64 + i.val) * 256 = kF (64 + i.val) 0 ∧ V3 1 (64 + i.val) * 256 = kF (64 + i.val) 1 ∧ V3 2 (64 + i.val) * 256 = kF (64 + i.val) 2 ∧ V3 3 (64 + i.val) * 256 = kF (64 + i.val) 3 ∧ V3 4 (64 + i.val) * 256 + rN3 (64 + i.val) * (402653184 : Int).tdiv (rD3 (64 + i.val)) = kF (64 + i.val) 4 := by decide +kernel
theorem val1 (c : List Int) {q : Int} (hq : 64 ≤ q ∧ q ≤ 383) : vnum1 (pX c 3) q * 6291456 + c.getD 2 0 * rN1 q * (402653184 : Int).tdiv (rD1 q) = c.getD 0 0 * kF q 0 + c.getD 1 0 * kF q 1 + c.getD 2 0 * kF q 2 := by
  obtain ⟨i, hi⟩ := Int.eq_ofNat_of_zero_le (show 0 ≤ q - 64 by omega)
  have h := key1 ⟨i, by omega⟩
  dsimp only at h
  rw [show 64 + (i : Int) = q by omega] at h
  obtain ⟨h0, h1, h2⟩ := h
  rw [vnum1_eq, ← h0, ← h1, ← h2, Int.add_mul, Int.add_mul, Int.mul_add, Int.mul_assoc, Int.mul_assoc, Int.mul_assoc, Int.mul_assoc]
  omega
theorem val3 (c : List Int) {q : Int} (hq : 64 ≤ q ∧ q ≤ 383) : vnum3 (pX c 5) q * 256 + c.getD 4 0 * rN3 q * (402653184 : Int).tdiv (rD3 q) = c.getD 0 0 * kF q 0 + c.getD 1 0 * kF q 1 + c.getD 2 0 * kF q 2 + c.getD 3 0 * kF q 3 + c.getD 4 0 * kF q 4 := by
  obtain ⟨i, hi⟩ := Int.eq_ofNat_of_zero_le (show 0 ≤ q - 64 by omega)
  have h := key3 ⟨i, by omega⟩
  dsimp only at h
  rw [show 64 + (i : Int) = q by omega] at h
  obtain ⟨h0, h1, h2, h3, h4⟩ := h
  rw [vnum3_eq, ← h0, ← h1, ← h2, ← h3, ← h4, Int.add_mul, Int.add_mul, Int.add_mul, Int.add_mul, Int.mul_add, Int.mul_assoc, Int.mul_assoc, Int.mul_assoc, Int.mul_assoc, Int.mul_assoc, Int.mul_assoc]
  omega
/-- The differences are the last coefficient. -/
theorem dif1 (c : List Int) : stN (pX c 3) 2 = List.replicate 6 (c.getD 2 0) := by
  obtain ⟨a0, h0⟩ : ∃ a, c.getD 0 0 = a := ⟨_, rfl⟩
  obtain ⟨a1, h1⟩ : ∃ a, c.getD 1 0 = a := ⟨_, rfl⟩
  obtain ⟨a2, h2⟩ : ∃ a, c.getD 2 0 = a := ⟨_, rfl⟩
  have e : pX c 3 = [a0, a0 + a1 * 1, a0 + a1 * 2 + a2 * 1, a0 + a1 * 3 + a2 * 3, a0 + a1 * 4 + a2 * 6, a0 + a1 * 5 + a2 * 10, a0 + a1 * 6 + a2 * 15, a0 + a1 * 7 + a2 * 21] := by
    have h : ∀ i, pS c i 3 = a0 + a1 * chF i 1 + a2 * chF i 2 := fun i => by
      simp only [pS, h0, h1, h2]
      have : chF i 0 = 1 := rfl
      rw [this]
      omega
    have h8 : List.range 8 = [0, 1, 2, 3, 4, 5, 6, 7] := by decide
    unfold pX
    rw [h8]
    simp only [List.map_cons, List.map_nil, h]
    rw [show chF 0 1 = 0 by decide, show chF 0 2 = 0 by decide, show chF 1 1 = 1 by decide, show chF 1 2 = 0 by decide, show chF 2 1 = 2 by decide, show chF 2 2 = 1 by decide, show chF 3 1 = 3 by decide, show chF 3 2 = 3 by decide, show chF 4 1 = 4 by decide, show chF 4 2 = 6 by decide, show chF 5 1 = 5 by decide, show chF 5 2 = 10 by decide, show chF 6 1 = 6 by decide, show chF 6 2 = 15 by decide, show chF 7 1 = 7 by decide, show chF 7 2 = 21 by decide]
    simp
  rw [e, h2]
  show steps (steps _) = _
  have gs : ∀ x0 x1 x2 x3 x4 x5 x6 x7 : Int, steps (steps [x0, x1, x2, x3, x4, x5, x6, x7]) = [((x2 - x1) - (x1 - x0)), ((x3 - x2) - (x2 - x1)), ((x4 - x3) - (x3 - x2)), ((x5 - x4) - (x4 - x3)), ((x6 - x5) - (x5 - x4)), ((x7 - x6) - (x6 - x5))] := fun _ _ _ _ _ _ _ _ => rfl
  refine (gs _ _ _ _ _ _ _ _).trans ?_
  show _ = [a2, a2, a2, a2, a2, a2]
  simp only [List.cons.injEq, and_true]
  refine ⟨by omega, by omega, by omega, by omega, by omega, by omega⟩
theorem dif3 (c : List Int) : stN (pX c 5) 4 = List.replicate 4 (c.getD 4 0) := by
  obtain ⟨a0, h0⟩ : ∃ a, c.getD 0 0 = a := ⟨_, rfl⟩
  obtain ⟨a1, h1⟩ : ∃ a, c.getD 1 0 = a := ⟨_, rfl⟩
  obtain ⟨a2, h2⟩ : ∃ a, c.getD 2 0 = a := ⟨_, rfl⟩
  obtain ⟨a3, h3⟩ : ∃ a, c.getD 3 0 = a := ⟨_, rfl⟩
  obtain ⟨a4, h4⟩ : ∃ a, c.getD 4 0 = a := ⟨_, rfl⟩
  have e : pX c 5 = [a0, a0 + a1 * 1, a0 + a1 * 2 + a2 * 1, a0 + a1 * 3 + a2 * 3 + a3 * 1, a0 + a1 * 4 + a2 * 6 + a3 * 4 + a4 * 1, a0 + a1 * 5 + a2 * 10 + a3 * 10 + a4 * 5, a0 + a1 * 6 + a2 * 15 + a3 * 20 + a4 * 15, a0 + a1 * 7 + a2 * 21 + a3 * 35 + a4 * 35] := by
    have h : ∀ i, pS c i 5 = a0 + a1 * chF i 1 + a2 * chF i 2 + a3 * chF i 3 + a4 * chF i 4 := fun i => by
      simp only [pS, h0, h1, h2, h3, h4]
      have : chF i 0 = 1 := rfl
      rw [this]
      omega
    have h8 : List.range 8 = [0, 1, 2, 3, 4, 5, 6, 7] := by decide
    unfold pX
    rw [h8]
    simp only [List.map_cons, List.map_nil, h]
    rw [show chF 0 1 = 0 by decide, show chF 0 2 = 0 by decide, show chF 0 3 = 0 by decide, show chF 0 4 = 0 by decide, show chF 1 1 = 1 by decide, show chF 1 2 = 0 by decide, show chF 1 3 = 0 by decide, show chF 1 4 = 0 by decide, show chF 2 1 = 2 by decide, show chF 2 2 = 1 by decide, show chF 2 3 = 0 by decide, show chF 2 4 = 0 by decide, show chF 3 1 = 3 by decide, show chF 3 2 = 3 by decide, show chF 3 3 = 1 by decide, show chF 3 4 = 0 by decide, show chF 4 1 = 4 by decide, show chF 4 2 = 6 by decide, show chF 4 3 = 4 by decide, show chF 4 4 = 1 by decide, show chF 5 1 = 5 by decide, show chF 5 2 = 10 by decide, show chF 5 3 = 10 by decide, show chF 5 4 = 5 by decide, show chF 6 1 = 6 by decide, show chF 6 2 = 15 by decide, show chF 6 3 = 20 by decide, show chF 6 4 = 15 by decide, show chF 7 1 = 7 by decide, show chF 7 2 = 21 by decide, show chF 7 3 = 35 by decide, show chF 7 4 = 35 by decide]
    simp
  rw [e, h4]
  show steps (steps (steps (steps _))) = _
  have gs : ∀ x0 x1 x2 x3 x4 x5 x6 x7 : Int, steps (steps (steps (steps [x0, x1, x2, x3, x4, x5, x6, x7]))) = [((((x4 - x3) - (x3 - x2)) - ((x3 - x2) - (x2 - x1))) - (((x3 - x2) - (x2 - x1)) - ((x2 - x1) - (x1 - x0)))), ((((x5 - x4) - (x4 - x3)) - ((x4 - x3) - (x3 - x2))) - (((x4 - x3) - (x3 - x2)) - ((x3 - x2) - (x2 - x1)))), ((((x6 - x5) - (x5 - x4)) - ((x5 - x4) - (x4 - x3))) - (((x5 - x4) - (x4 - x3)) - ((x4 - x3) - (x3 - x2)))), ((((x7 - x6) - (x6 - x5)) - ((x6 - x5) - (x5 - x4))) - (((x6 - x5) - (x5 - x4)) - ((x5 - x4) - (x4 - x3))))] := fun _ _ _ _ _ _ _ _ => rfl
  refine (gs _ _ _ _ _ _ _ _).trans ?_
  show _ = [a4, a4, a4, a4]
  simp only [List.cons.injEq, and_true]
  refine ⟨by omega, by omega, by omega, by omega⟩
theorem pS_bd {c : List Int} (h : ∀ x ∈ c, -50 ≤ x ∧ x ≤ 50) (hl : c.length = 5) {i m : Nat} (hi : i < 8) (hm : m ≤ 5) : -(5000 * (m : Int)) ≤ pS c i m ∧ pS c i m ≤ 5000 * (m : Int) := by
  induction m with
  | zero => simp [pS]
  | succ m ih =>
    have h1 := ih (by omega)
    have h2 := ch_bd ⟨i, hi⟩ ⟨m, by omega⟩
    dsimp only at h2
    have h3 := mul_bd (a := c.getD m 0) (b := chF i m) (A := 50) (B := 100) (getD_bd (by omega) h m) h2 (by omega) (by omega)
    show _ ≤ pS c i m + c.getD m 0 * chF i m ∧ pS c i m + c.getD m 0 * chF i m ≤ _
    omega
theorem pX_take (c : List Int) (m i : Nat) (h : i < 8) : (pX c m).take (i + 1) = (pX c m).take i ++ [pS c i m] := by
  rw [take_snoc (by rw [pX_len]; exact h), pX_at c m i h]
theorem low1 : ∀ f : Fin 64, Int.gcd (frN (remF 1 f.val) 8192) (frD (remF 1 f.val) 8192) = 1 ∧ (0 < frD (remF 1 f.val) 8192 ∧ frD (remF 1 f.val) 8192 ≤ 1000000000) ∧ (-1000000000 ≤ frN (remF 1 f.val) 8192 ∧ frN (remF 1 f.val) 8192 ≤ 1000000000) ∧ (402653184 : Int).tmod (frD (remF 1 f.val) 8192) = 0 ∧ (cmpK 40 (absF (frN (remF 1 f.val) 8192)) (frD (remF 1 f.val) 8192) 1 8 = some (-1) ∨ cmpK 40 (absF (frN (remF 1 f.val) 8192)) (frD (remF 1 f.val) 8192) 1 8 = some 0) := by decide +kernel
theorem low3 : ∀ f : Fin 64, Int.gcd (frN (remF 3 f.val) 402653184) (frD (remF 3 f.val) 402653184) = 1 ∧ (0 < frD (remF 3 f.val) 402653184 ∧ frD (remF 3 f.val) 402653184 ≤ 1000000000) ∧ (-1000000000 ≤ frN (remF 3 f.val) 402653184 ∧ frN (remF 3 f.val) 402653184 ≤ 1000000000) ∧ (402653184 : Int).tmod (frD (remF 3 f.val) 402653184) = 0 ∧ (cmpK 40 (absF (frN (remF 3 f.val) 402653184)) (frD (remF 3 f.val) 402653184) 3 128 = some (-1) ∨ cmpK 40 (absF (frN (remF 3 f.val) 402653184)) (frD (remF 3 f.val) 402653184) 3 128 = some 0) := by decide +kernel
theorem mx1 : frN (mxR 1 64) 8192 = 1 ∧ frD (mxR 1 64) 8192 = 8 := by decide +kernel
theorem mx3 : frN (mxR 3 64) 402653184 = 3 ∧ frD (mxR 3 64) 402653184 = 128 := by decide +kernel
theorem bn_bd : ∀ i : Fin 384, ∀ k : Fin 5, -25000000000 ≤ bnF (i.val : Int) k.val ∧ bnF (i.val : Int) k.val ≤ 25000000000 := by decide +kernel

end Go.Proofs.Ytghpofhpkbgckaa


namespace Go.Proofs.Ytghpofhpkbgckaa
open Go.RowKit

set_option maxRecDepth 100000 in
set_option maxHeartbeats 1000000 in
theorem binomial_any (q : Nat) (k : Nat) (w : World) (hq : q < 384) (hk : k ≤ 4) :
    Calls Try.prog 58 #[.int .i64 (q : Int), .int .i64 (k : Int)] w fun e w' => e = .returned (.int .i64 (bnF (q : Int) k)) ∧ w = w' := by
  have HB : Hid (∀ j, j ≤ 4 → -25000000000 ≤ bnF (q : Int) j ∧ bnF (q : Int) j ≤ 25000000000) := fun j hj => bn_bd ⟨q, hq⟩ ⟨j, by omega⟩
  have HS : Hid (∀ j, bnF (q : Int) (j + 1) = bnF (q : Int) j * ((q : Int) - 64 * (j : Int))) := fun j => rfl
  have H0 : Hid (bnF (q : Int) 0 = 1) := rfl
  obtain ⟨P, hP⟩ : ∃ P, bnF (q : Int) = P := ⟨_, rfl⟩
  rw [hP] at HB HS H0 ⊢
  clear hP
  go_enter Try.func58, Try.ntmps58
  go_wp2
  go_loop [5, 6] (fun s i => ∃ j : Nat, j ≤ k ∧ i = .int .i64 j ∧ s = .int .i64 (P j)) (fun _ i => k - (intOf i).toNat)
  case atStart => exact ⟨0, Nat.zero_le _, rfl, by rw [H0.out]⟩
  case round =>
    obtain ⟨j, hj, rfl, rfl⟩ := hrel
    by_cases hlt : j < k
    · have hkI : (j : Int) < (k : Int) := by omega
      have hs := HS.out j
      have hb := HB.out j (by omega)
      have hb1 := HB.out (j + 1) (by omega)
      obtain ⟨p, hp⟩ : ∃ p, P j = p := ⟨_, rfl⟩
      rw [hp] at hs hb
      have v1 : IntKind.i64.wrap (64 * (j : Int)) = 64 * (j : Int) := IntWalk.i64_in _ (by omega)
      have v2 : IntKind.i64.wrap ((q : Int) - 64 * (j : Int)) = (q : Int) - 64 * (j : Int) := IntWalk.i64_in _ (by omega)
      have v3 : IntKind.i64.wrap (p * ((q : Int) - 64 * (j : Int))) = p * ((q : Int) - 64 * (j : Int)) := IntWalk.i64_in _ (by omega)
      rw [hp]
      have HSS := Lib.hid hs
      clear hs hp
      go_wp2
      go_round
      case rel => exact ⟨j + 1, by omega, by go_num, by rw [HSS.out]⟩
      case measure => simp [intOf]; omega
    · obtain rfl : k = j := by omega
      have hkI : ¬ (k : Int) < (k : Int) := by omega
      clear hlt
      go_wp2
      go_ret
      exact ⟨rfl, rfl⟩
theorem bx7 {W : World} {g : Nat} {d c0 c1 c2 c3 c4 q : Int} {t : TypeId} (h : Bk W g t #[.int .i64 d, .int .i64 c0, .int .i64 c1, .int .i64 c2, .int .i64 c3, .int .i64 c4, .int .i64 q]) :
    W.cell? ⟨g, 0, none⟩ = some (.int .i64 d) ∧ W.cell? ⟨g, 6, none⟩ = some (.int .i64 q) ∧ ∀ k, k < 5 → W.cell? ⟨g, 1 + k, none⟩ = some (.int .i64 ([c0, c1, c2, c3, c4].getD k 0)) := by
  refine ⟨by rw [h.cell]; rfl, by rw [h.cell]; rfl, fun k hk => ?_⟩
  rcases (by omega : k = 0 ∨ k = 1 ∨ k = 2 ∨ k = 3 ∨ k = 4) with rfl | rfl | rfl | rfl | rfl <;> (rw [h.cell]; rfl)
theorem pS_bdz {c : List Int} {i m : Nat} (hi : i < 8) (hm : m ≤ 5) (h : ∀ z, z < m → -50 ≤ c.getD z 0 ∧ c.getD z 0 ≤ 50) : -(5000 * (m : Int)) ≤ pS c i m ∧ pS c i m ≤ 5000 * (m : Int) := by
  induction m with
  | zero => simp [pS]
  | succ m ih =>
    have h1 := ih (by omega) (fun z hz => h z (by omega))
    have h2 := ch_bd ⟨i, hi⟩ ⟨m, by omega⟩
    dsimp only at h2
    have h3 := mul_bd (a := c.getD m 0) (b := chF i m) (A := 50) (B := 100) (h m (by omega)) h2 (by omega) (by omega)
    show _ ≤ pS c i m + c.getD m 0 * chF i m ∧ pS c i m + c.getD m 0 * chF i m ≤ _
    omega
theorem sig_pX {c : List Int} {m : Nat} (hm : m ≤ 5) (h : ∀ z, z < m → -50 ≤ c.getD z 0 ∧ c.getD z 0 ≤ 50) : sigE (pX c m) = 0 := by
  refine sigE_of (by rw [pX_len]; omega) (fun x hx => ?_)
  unfold pX at hx
  obtain ⟨i, hi, rfl⟩ := List.mem_map.1 hx
  have := pS_bdz (i := i) (by simpa using hi) hm h
  omega
set_option maxRecDepth 100000 in
theorem isLow_any (x y : Int) (w : World) (hx : -1000000000000000000 ≤ x ∧ x ≤ 1000000000000000000) (hy : 0 < y ∧ y ≤ 1000000000000000000) (hg : Int.gcd x y = 1) :
    Calls Try.prog 39 #[.agg #[.int .i64 x, .int .i64 y]] w fun e w' => e = .returned (.bool true) ∧ Below w.heap.size w w' := by
  have CG := Lib.hid (fun W => bGcd_any x y W hx (by omega))
  rw [hg] at CG
  have K0 := Lib.hid (Bk.new w 28 #[.int .i64 x, .int .i64 y])
  have B0 := Lib.hid (below1 w (.cells #[.int .i64 x, .int .i64 y] 28))
  have hy0 := hy.1
  clear hg hx hy
  go_enter Try.func39, Try.ntmps39
  have d0 : (w.alloc (.cells #[.int .i64 x, .int .i64 y] 28)).cell? ⟨w.heap.size, 0, none⟩ = some (.int .i64 x) := by rw [K0.out.cell]; rfl
  have d1 : (w.alloc (.cells #[.int .i64 x, .int .i64 y] 28)).cell? ⟨w.heap.size, 1, none⟩ = some (.int .i64 y) := by rw [K0.out.cell]; rfl
  go_wp2_with fail
  refine (CG.out _).mono ?_
  rintro e w1 ⟨rfl, hb⟩
  have B1 := Lib.hid (B0.out.trans (hb.mono B0.out.size))
  clear hb
  go_wp2
  go_ret
  exact ⟨by simp, B1.out⟩
/-- Powers of 64, factors, and the powers left. -/
def pwF (k : Nat) : Int := [1, 64, 4096, 262144, 16777216].getD k 0
def facL : List Int := [24, 24, 12, 4, 1]
def pwG (k : Nat) : Int := [16777216, 262144, 4096, 64, 1, 0].getD k 0
theorem kF_eq (q : Int) {k : Nat} (hk : k < 5) : kF q k = facL.getD k 0 * bnF q k * pwG k := by
  rcases (by omega : k = 0 ∨ k = 1 ∨ k = 2 ∨ k = 3 ∨ k = 4) with rfl | rfl | rfl | rfl | rfl <;> rfl
theorem pwF_step : ∀ k : Fin 4, pwF k.val * 64 = pwF (k.val + 1) ∧ 0 ≤ pwF (k.val + 1) ∧ pwF (k.val + 1) ≤ 16777216 := by decide
theorem pwG_step : ∀ k : Fin 5, (pwG k.val).tdiv 64 = pwG (k.val + 1) ∧ 0 ≤ pwG k.val ∧ pwG k.val ≤ 16777216 ∧ 0 ≤ facL.getD k.val 0 ∧ facL.getD k.val 0 ≤ 24 ∧ 0 ≤ pwG (k.val + 1) ∧ pwG (k.val + 1) ≤ 16777216 := by decide
theorem kF_bd : ∀ i : Fin 384, ∀ k : Fin 5, -1000000000000 ≤ kF (i.val : Int) k.val ∧ kF (i.val : Int) k.val ≤ 1000000000000 := by decide +kernel
/-- The value of the polynomial, so far. -/
def vS (c : List Int) (q : Int) : Nat → Int
  | 0 => 0
  | k + 1 => vS c q k + c.getD k 0 * kF q k
theorem ur1 : ∀ f : Fin 64, -1000000000 ≤ frN (remF 1 f.val) 8192 * (402653184 : Int).tdiv (frD (remF 1 f.val) 8192) ∧ frN (remF 1 f.val) 8192 * (402653184 : Int).tdiv (frD (remF 1 f.val) 8192) ≤ 1000000000 ∧ 0 ≤ (402653184 : Int).tdiv (frD (remF 1 f.val) 8192) ∧ (402653184 : Int).tdiv (frD (remF 1 f.val) 8192) ≤ 402653184 := by decide +kernel
theorem ur3 : ∀ f : Fin 64, -1000000000 ≤ frN (remF 3 f.val) 402653184 * (402653184 : Int).tdiv (frD (remF 3 f.val) 402653184) ∧ frN (remF 3 f.val) 402653184 * (402653184 : Int).tdiv (frD (remF 3 f.val) 402653184) ≤ 1000000000 ∧ 0 ≤ (402653184 : Int).tdiv (frD (remF 3 f.val) 402653184) ∧ (402653184 : Int).tdiv (frD (remF 3 f.val) 402653184) ≤ 402653184 := by decide +kernel
theorem bkr2 {W : World} {g : Nat} {t : TypeId} {x y : Value} (h : Bk W g t #[x, y]) : W.cell? ⟨g, 0, none⟩ = some x ∧ W.cell? ⟨g, 1, none⟩ = some y :=
  ⟨by rw [h.cell]; rfl, by rw [h.cell]; rfl⟩
theorem rep_at {n k : Nat} (t : Int) (h : k < n) : (List.replicate n t).getD k 0 = t := by
  rw [List.getD_eq_getElem?_getD, List.getElem?_replicate, if_pos h]; rfl
theorem fac_rd {W : World} {g : Nat} {ty : TypeId} (h : Bk W g ty #[.int .i64 24, .int .i64 24, .int .i64 12, .int .i64 4, .int .i64 1]) : ∀ k, k < 5 → W.cell? ⟨g, k, none⟩ = some (.int .i64 (facL.getD k 0)) := by
  intro k hk
  rcases (by omega : k = 0 ∨ k = 1 ∨ k = 2 ∨ k = 3 ∨ k = 4) with rfl | rfl | rfl | rfl | rfl <;> (rw [h.cell]; rfl)

end Go.Proofs.Ytghpofhpkbgckaa

