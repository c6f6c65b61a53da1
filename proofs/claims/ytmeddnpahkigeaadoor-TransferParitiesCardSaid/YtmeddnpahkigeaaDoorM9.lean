import Derived.Test.YtmeddnpahkigeaaDoorPA
namespace Go.Proofs.YtmeddnpahkigeaaDoor

/-- A number squared so many times, modulo the prime. -/
def sqN (n : Nat) : Nat → Nat
  | 0 => n
  | i + 1 => sqN n i * sqN n i % 65537
def sq16 (n : Nat) : Nat := Nat.rec n (fun _ p => p * p % 65537) 16
def okN (n : Nat) : Bool := Nat.beq (sq16 n) 1
def chk : Nat → Nat → Bool
  | 0, lo => okN lo
  | d + 1, lo => chk d lo && chk d (lo + 2 ^ d)
theorem chk_all : chk 15 1 = true := by decide +kernel

theorem chk_of (d lo n : Nat) (h : chk d lo = true) (h0 : lo ≤ n) (h1 : n < lo + 2 ^ d) : okN n = true := by
  induction d generalizing lo with
  | zero => obtain rfl : n = lo := by simp at h1; omega
            exact h
  | succ d ih =>
    simp only [chk, Bool.and_eq_true] at h
    by_cases hc : n < lo + 2 ^ d
    · exact ih lo h.1 h0 hc
    · exact ih (lo + 2 ^ d) h.2 (by omega) (by rw [Nat.pow_succ] at h1; omega)

theorem sq16_eq (n : Nat) : sq16 n = sqN n 16 := rfl

theorem sqN_neg (n i : Nat) (h0 : n ≤ 65537) : sqN (65537 - n) (i + 1) = sqN n (i + 1) := by
  induction i with
  | zero =>
    show (65537 - n) * (65537 - n) % 65537 = n * n % 65537
    obtain ⟨m, hm⟩ : ∃ m, 65537 - n = m := ⟨_, rfl⟩
    rw [hm]
    have hmn : m + n = 65537 := by omega
    have e1 : m * n + n * n = 65537 * n := by rw [← Nat.add_mul, hmn]
    have e2 : m * m + n * m = 65537 * m := by rw [← Nat.add_mul, hmn]
    have e3 := Nat.mul_comm m n
    generalize m * m = A at *
    generalize n * n = B at *
    generalize m * n = C at *
    omega
  | succ i ih => 
    show sqN (65537 - n) (i + 1) * sqN (65537 - n) (i + 1) % 65537 = _
    rw [ih]; rfl

theorem sqN_one (n : Nat) (h0 : 1 ≤ n) (h1 : n ≤ 65536) : sqN n 16 = 1 := by
  have key : ∀ m, 1 ≤ m → m ≤ 32768 → sqN m 16 = 1 := fun m a b => by
    have := chk_of 15 1 m chk_all a (by omega)
    rw [← sq16_eq]
    exact Nat.eq_of_beq_eq_true this
  by_cases hc : n ≤ 32768
  · exact key n h0 hc
  · have := sqN_neg (65537 - n) 15 (by omega)
    have e : 65537 - (65537 - n) = n := by omega
    rw [e] at this
    rw [this]
    exact key _ (by omega) (by omega)

theorem mod_mul_l (a b : Int) : a % 65537 * b % 65537 = a * b % 65537 := by rw [Int.mul_emod, Int.emod_emod, ← Int.mul_emod]
theorem powTo_sq (n i : Nat) : powTo n i * n % 65537 = (sqN n i : Int) % 65537 := by
  induction i with
  | zero => simp [powTo, sqN]
  | succ i ih =>
    show powTo n i * powTo n i % 65537 * n % 65537 * n % 65537 = ((sqN n i * sqN n i % 65537 : Nat) : Int) % 65537
    have h1 : powTo n i * powTo n i % 65537 * n % 65537 * n % 65537 = (powTo n i * n) * (powTo n i * n) % 65537 := by
      rw [mod_mul_l, Int.mul_assoc, mod_mul_l]
      congr 1
      simp only [Int.mul_assoc, Int.mul_comm, Int.mul_left_comm]
    rw [h1, Int.mul_emod, ih]
    simp [Int.mul_emod]

theorem invT_one (n : Nat) (h0 : 1 ≤ n) (h1 : n ≤ 65536) : (n : Int) * invT n % 65537 = 1 := by
  rw [Int.mul_comm]
  show powTo n 16 * n % 65537 = 1
  rw [powTo_sq, sqN_one n h0 h1]
  rfl

theorem invT_mul (n : Int) (h0 : 1 ≤ n) (h1 : n ≤ 65536) : n * invT n % 65537 = 1 := by
  obtain ⟨m, rfl⟩ := Int.eq_ofNat_of_zero_le (show 0 ≤ n by omega)
  exact invT_one m (by omega) (by omega)
theorem invT_pos (n : Int) (h0 : 1 ≤ n) (h1 : n ≤ 65536) : 1 ≤ invT n := by
  have h := invT_mul n h0 h1
  have b := invT_bd n
  rcases Int.lt_or_le 0 (invT n) with hp | hp
  · omega
  · have : invT n = 0 := by omega
    rw [this] at h; simp at h

end Go.Proofs.YtmeddnpahkigeaaDoor
