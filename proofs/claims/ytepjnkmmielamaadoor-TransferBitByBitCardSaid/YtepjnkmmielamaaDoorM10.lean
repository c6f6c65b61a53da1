import Derived.Test.YtepjnkmmielamaaDoorM7
namespace Go.Proofs.YtepjnkmmielamaaDoor

/-- The number that bits are, the most significant one first. -/
def numT (l : List Int) : Int := l.foldl (fun n b => 2 * n + b) 0

theorem numT_snoc (l : List Int) (b : Int) : numT (l ++ [b]) = 2 * numT l + b := by simp [numT]
theorem bitsOf_succ (m c : Nat) : bitsOf m (c + 1) = bitsOf (m / 2) c ++ [((m % 2 : Nat) : Int)] := by
  unfold bitsOf
  rw [List.range_succ, List.map_append]
  congr 1
  · apply List.map_congr_left
    intro i hi
    have hi := List.mem_range.1 hi
    have e : c + 1 - 1 - i = (c - 1 - i) + 1 := by omega
    rw [e, Nat.pow_succ, Nat.mul_comm, Nat.div_div_eq_div_mul]
  · simp
theorem numT_bitsOf (m c : Nat) : numT (bitsOf m c) = ((m % 2 ^ c : Nat) : Int) := by
  induction c generalizing m with
  | zero => simp [bitsOf, numT, Nat.mod_one]
  | succ c ih =>
    rw [bitsOf_succ, numT_snoc, ih]
    have : m % 2 ^ (c + 1) = 2 * (m / 2 % 2 ^ c) + m % 2 := by
      rw [Nat.pow_succ, Nat.mul_comm (2 ^ c) 2, Nat.mod_mul]
      omega
    rw [this]
    simp

def Bits01 (l : List Int) : Prop := ∀ x ∈ l, x = 0 ∨ x = 1
theorem bitsOf_01 (m c : Nat) : Bits01 (bitsOf m c) := by
  intro x hx
  simp only [bitsOf, List.mem_map] at hx
  obtain ⟨i, _, rfl⟩ := hx
  omega

theorem numT_bd (l : List Int) (h : Bits01 l) : 0 ≤ numT l ∧ numT l < 2 ^ l.length := by
  unfold numT
  have key : ∀ (l : List Int) (n : Int) (c : Nat), Bits01 l → 0 ≤ n → n < 2 ^ c → 0 ≤ l.foldl (fun n b => 2 * n + b) n ∧ l.foldl (fun n b => 2 * n + b) n < 2 ^ (c + l.length) := by
    intro l
    induction l with
    | nil => intro n c _ h0 h1; simpa using ⟨h0, h1⟩
    | cons b l ih =>
      intro n c h h0 h1
      have hb := h b (by simp)
      have := ih (2 * n + b) (c + 1) (fun x hx => h x (by simp [hx])) (by omega) (by rw [Int.pow_succ]; omega)
      simpa [Nat.add_assoc, Nat.add_comm 1 l.length] using this
  have := key l 0 0 h (by omega) (by simp)
  simpa using this

/-- How many bits stand before the first zero. -/
def onesL (l : List Int) : Nat := l.findIdx (· == 0)
theorem onesL_le (l : List Int) : onesL l ≤ l.length := List.findIdx_le_length
theorem onesL_code (q : Nat) (r : List Int) : onesL (List.replicate q 1 ++ (0 :: r)) = q := by
  unfold onesL
  induction q with
  | zero => simp [List.findIdx_cons]
  | succ q ih => simp [List.replicate_succ, List.findIdx_cons, ih]
theorem onesL_none (q : Nat) : onesL (List.replicate q 1) = q := by
  unfold onesL
  induction q with
  | zero => simp
  | succ q ih => simp [List.replicate_succ, List.findIdx_cons, ih]

def stepU (l : List Int) (k : Nat) : Int := onesL l * 2 ^ k + numT ((l.drop (onesL l + 1)).take k)
def stepR (l : List Int) (k : Nat) : List Int := l.drop (onesL l + 1 + k)
def stepOk (l : List Int) (k : Nat) : Bool := decide (onesL l + 1 + k ≤ l.length)

/-- What i codes are, what is left behind them, and whether they are there. -/
def restR (l : List Int) (k : Nat) : Nat → List Int
  | 0 => l
  | i + 1 => stepR (restR l k i) k
def okR (l : List Int) (k : Nat) : Nat → Bool
  | 0 => true
  | i + 1 => okR l k i && stepOk (restR l k i) k
def numsU (l : List Int) (k : Nat) : Nat → List Int
  | 0 => []
  | i + 1 => numsU l k i ++ [stepU (restR l k i) k]

theorem numsU_length (l : List Int) (k i : Nat) : (numsU l k i).length = i := by
  induction i with
  | zero => rfl
  | succ i ih => simp [numsU, ih]
theorem okR_mono (l : List Int) (k i j : Nat) (hij : i ≤ j) (h : okR l k j = true) : okR l k i = true := by
  induction j with
  | zero => obtain rfl : i = 0 := by omega
            exact h
  | succ j ih =>
    rcases Nat.lt_or_ge i (j + 1) with hc | hc
    · simp only [okR, Bool.and_eq_true] at h; exact ih (by omega) h.1
    · obtain rfl : i = j + 1 := by omega
      exact h

theorem stepU_code (u k : Nat) (r : List Int) : stepU (codeU u k ++ r) k = u := by
  have e : codeU u k ++ r = List.replicate (u / 2 ^ k) 1 ++ (0 :: (bitsOf u k ++ r)) := by simp [codeU]
  unfold stepU
  rw [e, onesL_code]
  have e2 : (List.replicate (u / 2 ^ k) (1 : Int) ++ (0 :: (bitsOf u k ++ r))).drop (u / 2 ^ k + 1) = bitsOf u k ++ r := by
    rw [List.drop_append]
    simp
  rw [e2, List.take_append_of_le_length (by rw [bitsOf_length]; omega), List.take_of_length_le (by rw [bitsOf_length]; omega), numT_bitsOf]
  have := Nat.div_add_mod u (2 ^ k)
  rw [Nat.mul_comm] at this
  have h2 : ((u / 2 ^ k * 2 ^ k + u % 2 ^ k : Nat) : Int) = u := by rw [this]
  simpa using h2
theorem stepR_code (u k : Nat) (r : List Int) : stepR (codeU u k ++ r) k = r := by
  have e : codeU u k ++ r = List.replicate (u / 2 ^ k) 1 ++ (0 :: (bitsOf u k ++ r)) := by simp [codeU]
  unfold stepR
  have h1 : onesL (codeU u k ++ r) = u / 2 ^ k := by rw [e, onesL_code]
  rw [h1, List.drop_append, List.drop_of_length_le (by rw [codeU_length]; omega), codeU_length]
  simp
theorem stepOk_code (u k : Nat) (r : List Int) : stepOk (codeU u k ++ r) k = true := by
  have e : codeU u k ++ r = List.replicate (u / 2 ^ k) 1 ++ (0 :: (bitsOf u k ++ r)) := by simp [codeU]
  unfold stepOk
  have h1 : onesL (codeU u k ++ r) = u / 2 ^ k := by rw [e, onesL_code]
  rw [h1, List.length_append, codeU_length]
  simp
theorem stepOk_cut (u k : Nat) : stepOk (codeU u k).dropLast k = false := by
  unfold stepOk
  have hl : (codeU u k).dropLast.length = u / 2 ^ k + k := by rw [List.length_dropLast, codeU_length]; generalize u / 2 ^ k = q; omega
  have h1 : onesL (codeU u k).dropLast = u / 2 ^ k := by
    cases k with
    | zero =>
      have e : (codeU u 0).dropLast = List.replicate (u / 2 ^ 0) 1 := by simp [codeU, bitsOf, List.dropLast_append]
      rw [e, onesL_none]
    | succ k =>
      have e : (codeU u (k + 1)).dropLast = List.replicate (u / 2 ^ (k + 1)) 1 ++ (0 :: bitsOf (u / 2) k) := by
        have e0 : codeU u (k + 1) = (List.replicate (u / 2 ^ (k + 1)) 1 ++ (0 :: bitsOf (u / 2) k)) ++ [((u % 2 : Nat) : Int)] := by
          simp [codeU, bitsOf_succ]
        rw [e0, List.dropLast_concat]
      rw [e, onesL_code]
  rw [h1, hl]
  simp

end Go.Proofs.YtepjnkmmielamaaDoor
