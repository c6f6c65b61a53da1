import Derived.Laws.CopyOwn
namespace Go.Proofs.YtkemoffagdilgaaGreatDoor

/-- The lowest 'c' bits of n, the highest of them first. -/
def bitsOf (n c : Nat) : List Int := (List.range c).map fun i => ((n / 2 ^ (c - 1 - i) % 2 : Nat) : Int)

theorem bitsOf_length (n c : Nat) : (bitsOf n c).length = c := by simp [bitsOf]
theorem bitsOf_take (n c k : Nat) (hk : k < c) : (bitsOf n c).take (k + 1) = (bitsOf n c).take k ++ [((n / 2 ^ (c - 1 - k) % 2 : Nat) : Int)] := by
  rw [List.take_succ_eq_append_getElem (by rw [bitsOf_length]; exact hk)]
  simp [bitsOf]

end Go.Proofs.YtkemoffagdilgaaGreatDoor

namespace Go.Proofs.YtkemoffagdilgaaGreatDoor

def bitsTo (us : List Int) (k j : Nat) : Int := 7 + ((us.take j).map fun u => u / 2 ^ k + 1 + (k : Int)).sum
def bitsF (us : List Int) (k : Nat) : Int := bitsTo us k 8

theorem bitsTo_zero (us : List Int) (k : Nat) : bitsTo us k 0 = 7 := by simp [bitsTo]
theorem bitsTo_step (us : List Int) (k j : Nat) (hj : j < us.length) : bitsTo us k (j + 1) = bitsTo us k j + (us.getD j 0 / 2 ^ k + 1 + (k : Int)) := by
  unfold bitsTo
  rw [List.take_succ_eq_append_getElem hj]
  simp only [List.map_append, List.sum_append, List.map_cons, List.map_nil, List.sum_cons, List.sum_nil, List.getD_eq_getElem?_getD, List.getElem?_eq_getElem hj, Option.getD_some]
  omega

/-- Every number of the list is from 0 to a million. -/
def Small (us : List Int) : Prop := ∀ j, 0 ≤ us.getD j 0 ∧ us.getD j 0 ≤ 1000000

theorem quo_bd (u : Int) (k : Nat) (h0 : 0 ≤ u) (h1 : u ≤ 1000000) : 0 ≤ u / 2 ^ k ∧ u / 2 ^ k ≤ 1000000 := by
  have hp : (0 : Int) < 2 ^ k := Int.pow_pos (by decide)
  have a := Int.ediv_nonneg h0 (Int.le_of_lt hp)
  have b := Int.ediv_le_self (b := 2 ^ k) h0
  omega

theorem bitsTo_bd (us : List Int) (k j : Nat) (hs : Small us) (hk : k ≤ 17) (hj : j ≤ us.length) : 7 ≤ bitsTo us k j ∧ bitsTo us k j ≤ 7 + 1000018 * j := by
  induction j with
  | zero => simp [bitsTo_zero]
  | succ j ih =>
    have h := ih (by omega)
    have q := quo_bd _ k (hs j).1 (hs j).2
    rw [bitsTo_step us k j (by omega)]
    omega

end Go.Proofs.YtkemoffagdilgaaGreatDoor

namespace Go.Proofs.YtkemoffagdilgaaGreatDoor

/-- Every number of the list has at most the size M. -/
def Bnd (xs : List Int) (M : Int) : Prop := ∀ j, -M ≤ xs.getD j 0 ∧ xs.getD j 0 ≤ M

def expT (xs : List Int) (i k : Nat) (f : Int) : Int := if k + 1 ≤ i then f * xs.getD (i - 1 - k) 0 else 0
def expd2 (xs : List Int) (i : Nat) (f0 f1 : Int) : Int := expT xs i 0 f0 + expT xs i 1 f1

theorem expT_bd (xs : List Int) (i k : Nat) (f M : Int) (h : Bnd xs M) (hM : 0 ≤ M) (h0 : -2 ≤ f) (h1 : f ≤ 2) : -(2 * M) ≤ expT xs i k f ∧ expT xs i k f ≤ 2 * M := by
  unfold expT
  split
  · have hb := h (i - 1 - k)
    generalize xs.getD (i - 1 - k) 0 = x at hb
    obtain rfl | rfl | rfl | rfl | rfl : f = -2 ∨ f = -1 ∨ f = 0 ∨ f = 1 ∨ f = 2 := by omega
    all_goals omega
  · omega

theorem mul_bd (f x M : Int) (hb : -M ≤ x ∧ x ≤ M) (hM : 0 ≤ M) (h0 : -2 ≤ f) (h1 : f ≤ 2) : -(2 * M) ≤ f * x ∧ f * x ≤ 2 * M := by
  obtain rfl | rfl | rfl | rfl | rfl : f = -2 ∨ f = -1 ∨ f = 0 ∨ f = 1 ∨ f = 2 := by omega
  all_goals omega

def pred0 (p : Nat) : Int := if p = 0 then 0 else if p = 1 then 1 else 2
def pred1 (p : Nat) : Int := if p = 0 then 0 else if p = 1 then 0 else -1
def expd (xs : List Int) (i p : Nat) : Int := expd2 xs i (pred0 p) (pred1 p)

theorem expd_bd (xs : List Int) (i p : Nat) (M : Int) (h : Bnd xs M) (hM : 0 ≤ M) : -(4 * M) ≤ expd xs i p ∧ expd xs i p ≤ 4 * M := by
  have h0 : -2 ≤ pred0 p ∧ pred0 p ≤ 2 := by unfold pred0; split <;> (try split) <;> omega
  have h1 : -2 ≤ pred1 p ∧ pred1 p ≤ 2 := by unfold pred1; split <;> (try split) <;> omega
  have a := expT_bd xs i 0 _ M h hM h0.1 h0.2
  have b := expT_bd xs i 1 _ M h hM h1.1 h1.2
  simp only [expd, expd2]
  omega

end Go.Proofs.YtkemoffagdilgaaGreatDoor

namespace Go.Proofs.YtkemoffagdilgaaGreatDoor

def fold1 (r : Int) : Int := if 0 ≤ r then 2 * r else -2 * r - 1
def foldeds (xs : List Int) (p : Nat) : List Int := (List.range 8).map fun i => fold1 (xs.getD i 0 - expd xs i p)

theorem foldeds_length (xs : List Int) (p : Nat) : (foldeds xs p).length = 8 := by simp [foldeds]
theorem foldeds_at (xs : List Int) (p i : Nat) (hi : i < 8) : (foldeds xs p).getD i 0 = fold1 (xs.getD i 0 - expd xs i p) := by
  simp [foldeds, hi]

/-- The first k of us, zeros behind them. -/
def upto (us : List Int) (k : Nat) : List Int := (List.range us.length).map fun i => if i < k then us.getD i 0 else 0

theorem upto_length (us : List Int) (k : Nat) : (upto us k).length = us.length := by simp [upto]
theorem upto_at (us : List Int) (k i : Nat) (hi : i < us.length) : (upto us k).getD i 0 = if i < k then us.getD i 0 else 0 := by
  simp [upto, hi]

theorem upto_step (us : List Int) (k : Nat) (hk : k < us.length) : upto us (k + 1) = (upto us k).set k (us.getD k 0) := by
  apply List.ext_getElem?
  intro i
  rcases Nat.lt_or_ge i us.length with hi | hi
  · simp only [upto, List.getElem?_set, List.getElem?_map, List.getElem?_range, hi, List.length_map, List.length_range, hk, Option.map_some]
    by_cases h : k = i
    · subst h; simp
    · rw [if_neg h]
      by_cases h2 : i < k
      · rw [if_pos h2, if_pos (by omega)]
      · rw [if_neg h2, if_neg (by omega)]
  · rw [List.getElem?_eq_none (by simpa [upto] using hi), List.getElem?_eq_none (by simpa [upto] using hi)]
theorem upto_all (us : List Int) : upto us us.length = us := by
  apply List.ext_getElem?
  intro i
  rcases Nat.lt_or_ge i us.length with hi | hi
  · simp [upto, hi]
  · rw [List.getElem?_eq_none (by simpa [upto] using hi), List.getElem?_eq_none hi]

end Go.Proofs.YtkemoffagdilgaaGreatDoor

namespace Go.Proofs.YtkemoffagdilgaaGreatDoor

theorem fold1_bd (r : Int) (h0 : -163835 ≤ r) (h1 : r ≤ 163835) : 0 ≤ fold1 r ∧ fold1 r ≤ 1000000 := by
  unfold fold1
  split <;> omega

theorem foldeds_small (xs : List Int) (p : Nat) (h : Bnd xs 32767) : Small (foldeds xs p) := by
  intro j
  rcases Nat.lt_or_ge j 8 with hj | hj
  · rw [foldeds_at xs p j hj]
    have a := h j
    have b := expd_bd xs j p 32767 h (by omega)
    exact fold1_bd _ (by omega) (by omega)
  · have e : (foldeds xs p).getD j 0 = 0 := by
      rw [List.getD_eq_getElem?_getD, List.getElem?_eq_none (by rw [foldeds_length]; exact hj)]
      rfl
    rw [e]; omega

def stepS (xs : List Int) (s : Nat × Nat × Int) (p k : Nat) : Nat × Nat × Int :=
  if bitsF (foldeds xs p) k < s.2.2 then (p, k, bitsF (foldeds xs p) k) else s
def innerS (xs : List Int) (s : Nat × Nat × Int) (p : Nat) : Nat → Nat × Nat × Int
  | 0 => s
  | k + 1 => stepS xs (innerS xs s p k) p k
def outerS (xs : List Int) (s : Nat × Nat × Int) : Nat → Nat × Nat × Int
  | 0 => s
  | p + 1 => innerS xs (outerS xs s p) p 18
def startS (xs : List Int) : Nat × Nat × Int := (0, 0, bitsF (foldeds xs 0) 0)
def shortS (xs : List Int) : Nat × Nat × Int := outerS xs (startS xs) 3

/-- What every state of the search is. -/
def GoodS (xs : List Int) (s : Nat × Nat × Int) : Prop := s.1 < 3 ∧ s.2.1 < 18 ∧ s.2.2 = bitsF (foldeds xs s.1) s.2.1

theorem GoodS.start (xs : List Int) : GoodS xs (startS xs) := ⟨by simp [startS], by simp [startS], rfl⟩
theorem GoodS.step {xs : List Int} {s : Nat × Nat × Int} (h : GoodS xs s) (p k : Nat) (hp : p < 3) (hk : k < 18) : GoodS xs (stepS xs s p k) := by
  unfold stepS
  split
  · exact ⟨hp, hk, rfl⟩
  · exact h
theorem GoodS.inner {xs : List Int} {s : Nat × Nat × Int} (h : GoodS xs s) (p : Nat) (hp : p < 3) (k : Nat) (hk : k ≤ 18) : GoodS xs (innerS xs s p k) := by
  induction k with
  | zero => exact h
  | succ k ih => exact (ih (by omega)).step p k hp (by omega)
theorem GoodS.outer {xs : List Int} {s : Nat × Nat × Int} (h : GoodS xs s) (p : Nat) (hp : p ≤ 3) : GoodS xs (outerS xs s p) := by
  induction p with
  | zero => exact h
  | succ p ih => exact (ih (by omega)).inner p (by omega) 18 (by omega)
theorem shortS_good (xs : List Int) : GoodS xs (shortS xs) := (GoodS.start xs).outer 3 (by omega)
theorem GoodS.bd {xs : List Int} {s : Nat × Nat × Int} (h : GoodS xs s) (hb : Bnd xs 32767) : 7 ≤ s.2.2 ∧ s.2.2 ≤ 9000000 := by
  have := bitsTo_bd (foldeds xs s.1) s.2.1 8 (foldeds_small xs _ hb) (by have := h.2.1; omega) (by rw [foldeds_length]; omega)
  rw [h.2.2]
  unfold bitsF
  omega
theorem bitsF_bd (xs : List Int) (p k : Nat) (hb : Bnd xs 32767) (hk : k < 18) : 7 ≤ bitsF (foldeds xs p) k ∧ bitsF (foldeds xs p) k ≤ 9000000 := by
  have := bitsTo_bd (foldeds xs p) k 8 (foldeds_small xs _ hb) (by omega) (by rw [foldeds_length]; omega)
  unfold bitsF
  omega

end Go.Proofs.YtkemoffagdilgaaGreatDoor

namespace Go.Proofs.YtkemoffagdilgaaGreatDoor
open Go

/-- n times x, and then z, c in all. -/
def repL {α : Type} (x z : α) (c n : Nat) : List α := List.replicate n x ++ List.replicate (c - n) z

theorem repL_length {α : Type} (x z : α) (c n : Nat) (h : n ≤ c) : (repL x z c n).length = c := by simp [repL]; omega
theorem repL_at {α : Type} (x z : α) (c n j : Nat) (v : α) (hj : (List.replicate n x)[j]? = some v) : (repL x z c n)[j]? = some v := by
  unfold repL
  rw [List.getElem?_append_left]
  · exact hj
  · have := (List.getElem?_eq_some_iff.1 hj).1
    exact this
theorem repL_splice {α : Type} (x z : α) (c n k : Nat) (h : n + k ≤ c) : splice (repL x z c n) n (List.replicate k x) = repL x z c (n + k) := by
  unfold splice repL
  rw [List.take_append_of_le_length (by simp), List.take_of_length_le (by simp), List.drop_append]
  simp only [List.length_replicate, List.drop_replicate]
  rw [← List.append_assoc, List.replicate_append_replicate, show n - (n + k) = 0 by omega, show c - n - (n + k - n) = c - (n + k) by omega]
  simp
theorem repL_all {α : Type} (x z : α) (c : Nat) : repL x z c c = List.replicate c x := by simp [repL]

end Go.Proofs.YtkemoffagdilgaaGreatDoor

namespace Go.Proofs.YtkemoffagdilgaaGreatDoor

/-- The code of a number with the parameter k. -/
def codeU (u k : Nat) : List Int := List.replicate (u / 2 ^ k) 1 ++ (0 :: bitsOf u k)
theorem codeU_length (u k : Nat) : (codeU u k).length = u / 2 ^ k + 1 + k := by simp [codeU, bitsOf_length]; omega

def codesTo (us : List Int) (k : Nat) : Nat → List Int
  | 0 => []
  | i + 1 => codesTo us k i ++ codeU (us.getD i 0).toNat k
def headB (p k : Nat) : List Int := bitsOf p 2 ++ bitsOf k 5
def packW (us : List Int) (p k i : Nat) : List Int := headB p k ++ codesTo us k i
def packT (xs : List Int) : List Int := packW (foldeds xs (shortS xs).1) (shortS xs).1 (shortS xs).2.1 8

theorem headB_length (p k : Nat) : (headB p k).length = 7 := by simp [headB, bitsOf_length]
theorem codesTo_length (us : List Int) (k i : Nat) (hs : Small us) (hi : i ≤ us.length) : ((codesTo us k i).length : Int) + 7 = bitsTo us k i := by
  induction i with
  | zero => simp [codesTo, bitsTo_zero]
  | succ i ih =>
    rw [bitsTo_step us k i (by omega), ← ih (by omega)]
    simp only [codesTo, List.length_append, codeU_length]
    have h0 := (hs i).1
    obtain ⟨u, hu⟩ := Int.eq_ofNat_of_zero_le h0
    rw [hu]
    simp
    omega
theorem packW_length (us : List Int) (p k i : Nat) (hs : Small us) (hi : i ≤ us.length) : ((packW us p k i).length : Int) = bitsTo us k i := by
  rw [← codesTo_length us k i hs hi, packW, List.length_append, headB_length]
  omega

end Go.Proofs.YtkemoffagdilgaaGreatDoor

namespace Go.Proofs.YtkemoffagdilgaaGreatDoor

/-- A number to the power that is the prime less 2 (sixteen ones in binary digits), modulo the prime. -/
def powTo (n : Int) : Nat → Int
  | 0 => 1
  | i + 1 => powTo n i * powTo n i % 65537 * n % 65537
def invT (n : Int) : Int := powTo n 16

theorem powTo_bd (n : Int) (i : Nat) : 0 ≤ powTo n i ∧ powTo n i < 65537 := by
  cases i with
  | zero => simp [powTo]
  | succ i => exact ⟨Int.emod_nonneg _ (by omega), Int.emod_lt_of_pos _ (by omega)⟩
theorem invT_bd (n : Int) : 0 ≤ invT n ∧ invT n < 65537 := powTo_bd n 16

theorem mul_bd2 (a b A B : Int) (ha : 0 ≤ a) (hb : 0 ≤ b) (hA : a ≤ A) (hB : b ≤ B) : 0 ≤ a * b ∧ a * b ≤ A * B :=
  ⟨Int.mul_nonneg ha hb, Int.mul_le_mul hA hB hb (Int.le_trans ha hA)⟩

end Go.Proofs.YtkemoffagdilgaaGreatDoor

namespace Go.Proofs.YtkemoffagdilgaaGreatDoor

/-- The number that bits are, the most significant one first. -/
def numT (l : List Int) : Int := l.foldl (fun n b => 2 * n + b) 0

theorem numT_snoc (l : List Int) (b : Int) : numT (l ++ [b]) = 2 * numT l + b := by simp [numT]
theorem bitsOf_succ (m c : Nat) : bitsOf m (c + 1) = bitsOf (m / 2) c ++ [((m % 2 : Nat) : Int)] := by
  unfold bitsOf
  rw [List.range_succ, List.map_append]
  congr 1
  · apply List.map_congr_left
    intro i hi
    have hi := List.mem_range.1 hi
    have e : c + 1 - 1 - i = (c - 1 - i) + 1 := by omega
    rw [e, Nat.pow_succ, Nat.mul_comm, Nat.div_div_eq_div_mul]
  · simp
theorem numT_bitsOf (m c : Nat) : numT (bitsOf m c) = ((m % 2 ^ c : Nat) : Int) := by
  induction c generalizing m with
  | zero => simp [bitsOf, numT, Nat.mod_one]
  | succ c ih =>
    rw [bitsOf_succ, numT_snoc, ih]
    have : m % 2 ^ (c + 1) = 2 * (m / 2 % 2 ^ c) + m % 2 := by
      rw [Nat.pow_succ, Nat.mul_comm (2 ^ c) 2, Nat.mod_mul]
      omega
    rw [this]
    simp

def Bits01 (l : List Int) : Prop := ∀ x ∈ l, x = 0 ∨ x = 1
theorem bitsOf_01 (m c : Nat) : Bits01 (bitsOf m c) := by
  intro x hx
  simp only [bitsOf, List.mem_map] at hx
  obtain ⟨i, _, rfl⟩ := hx
  omega

theorem numT_bd (l : List Int) (h : Bits01 l) : 0 ≤ numT l ∧ numT l < 2 ^ l.length := by
  unfold numT
  have key : ∀ (l : List Int) (n : Int) (c : Nat), Bits01 l → 0 ≤ n → n < 2 ^ c → 0 ≤ l.foldl (fun n b => 2 * n + b) n ∧ l.foldl (fun n b => 2 * n + b) n < 2 ^ (c + l.length) := by
    intro l
    induction l with
    | nil => intro n c _ h0 h1; simpa using ⟨h0, h1⟩
    | cons b l ih =>
      intro n c h h0 h1
      have hb := h b (by simp)
      have := ih (2 * n + b) (c + 1) (fun x hx => h x (by simp [hx])) (by omega) (by rw [Int.pow_succ]; omega)
      simpa [Nat.add_assoc, Nat.add_comm 1 l.length] using this
  have := key l 0 0 h (by omega) (by simp)
  simpa using this

/-- How many bits stand before the first zero. -/
def onesL (l : List Int) : Nat := l.findIdx (· == 0)
theorem onesL_le (l : List Int) : onesL l ≤ l.length := List.findIdx_le_length
theorem onesL_code (q : Nat) (r : List Int) : onesL (List.replicate q 1 ++ (0 :: r)) = q := by
  unfold onesL
  induction q with
  | zero => simp [List.findIdx_cons]
  | succ q ih => simp [List.replicate_succ, List.findIdx_cons, ih]
theorem onesL_none (q : Nat) : onesL (List.replicate q 1) = q := by
  unfold onesL
  induction q with
  | zero => simp
  | succ q ih => simp [List.replicate_succ, List.findIdx_cons, ih]

def stepU (l : List Int) (k : Nat) : Int := onesL l * 2 ^ k + numT ((l.drop (onesL l + 1)).take k)
def stepR (l : List Int) (k : Nat) : List Int := l.drop (onesL l + 1 + k)
def stepOk (l : List Int) (k : Nat) : Bool := decide (onesL l + 1 + k ≤ l.length)

/-- What i codes are, what is left behind them, and whether they are there. -/
def restR (l : List Int) (k : Nat) : Nat → List Int
  | 0 => l
  | i + 1 => stepR (restR l k i) k
def okR (l : List Int) (k : Nat) : Nat → Bool
  | 0 => true
  | i + 1 => okR l k i && stepOk (restR l k i) k
def numsU (l : List Int) (k : Nat) : Nat → List Int
  | 0 => []
  | i + 1 => numsU l k i ++ [stepU (restR l k i) k]

theorem numsU_length (l : List Int) (k i : Nat) : (numsU l k i).length = i := by
  induction i with
  | zero => rfl
  | succ i ih => simp [numsU, ih]
theorem okR_mono (l : List Int) (k i j : Nat) (hij : i ≤ j) (h : okR l k j = true) : okR l k i = true := by
  induction j with
  | zero => obtain rfl : i = 0 := by omega
            exact h
  | succ j ih =>
    rcases Nat.lt_or_ge i (j + 1) with hc | hc
    · simp only [okR, Bool.and_eq_true] at h; exact ih (by omega) h.1
    · obtain rfl : i = j + 1 := by omega
      exact h

theorem stepU_code (u k : Nat) (r : List Int) : stepU (codeU u k ++ r) k = u := by
  have e : codeU u k ++ r = List.replicate (u / 2 ^ k) 1 ++ (0 :: (bitsOf u k ++ r)) := by simp [codeU]
  unfold stepU
  rw [e, onesL_code]
  have e2 : (List.replicate (u / 2 ^ k) (1 : Int) ++ (0 :: (bitsOf u k ++ r))).drop (u / 2 ^ k + 1) = bitsOf u k ++ r := by
    rw [List.drop_append]
    simp
  rw [e2, List.take_append_of_le_length (by rw [bitsOf_length]; omega), List.take_of_length_le (by rw [bitsOf_length]; omega), numT_bitsOf]
  have := Nat.div_add_mod u (2 ^ k)
  rw [Nat.mul_comm] at this
  have h2 : ((u / 2 ^ k * 2 ^ k + u % 2 ^ k : Nat) : Int) = u := by rw [this]
  simpa using h2
theorem stepR_code (u k : Nat) (r : List Int) : stepR (codeU u k ++ r) k = r := by
  have e : codeU u k ++ r = List.replicate (u / 2 ^ k) 1 ++ (0 :: (bitsOf u k ++ r)) := by simp [codeU]
  unfold stepR
  have h1 : onesL (codeU u k ++ r) = u / 2 ^ k := by rw [e, onesL_code]
  rw [h1, List.drop_append, List.drop_of_length_le (by rw [codeU_length]; omega), codeU_length]
  simp
theorem stepOk_code (u k : Nat) (r : List Int) : stepOk (codeU u k ++ r) k = true := by
  have e : codeU u k ++ r = List.replicate (u / 2 ^ k) 1 ++ (0 :: (bitsOf u k ++ r)) := by simp [codeU]
  unfold stepOk
  have h1 : onesL (codeU u k ++ r) = u / 2 ^ k := by rw [e, onesL_code]
  rw [h1, List.length_append, codeU_length]
  simp
theorem stepOk_cut (u k : Nat) : stepOk (codeU u k).dropLast k = false := by
  unfold stepOk
  have hl : (codeU u k).dropLast.length = u / 2 ^ k + k := by rw [List.length_dropLast, codeU_length]; generalize u / 2 ^ k = q; omega
  have h1 : onesL (codeU u k).dropLast = u / 2 ^ k := by
    cases k with
    | zero =>
      have e : (codeU u 0).dropLast = List.replicate (u / 2 ^ 0) 1 := by simp [codeU, bitsOf, List.dropLast_append]
      rw [e, onesL_none]
    | succ k =>
      have e : (codeU u (k + 1)).dropLast = List.replicate (u / 2 ^ (k + 1)) 1 ++ (0 :: bitsOf (u / 2) k) := by
        have e0 : codeU u (k + 1) = (List.replicate (u / 2 ^ (k + 1)) 1 ++ (0 :: bitsOf (u / 2) k)) ++ [((u % 2 : Nat) : Int)] := by
          simp [codeU, bitsOf_succ]
        rw [e0, List.dropLast_concat]
      rw [e, onesL_code]
  rw [h1, hl]
  simp

end Go.Proofs.YtkemoffagdilgaaGreatDoor

namespace Go.Proofs.YtkemoffagdilgaaGreatDoor

def unfold1 (u : Int) : Int := if u % 2 = 1 then -(u / 2) - 1 else u / 2
theorem unfold_fold (r : Int) : unfold1 (fold1 r) = r := by
  unfold unfold1 fold1
  split <;> split <;> omega

/-- The first samples that residuals stand for. -/
def unfT (us : List Int) (p : Nat) : Nat → List Int
  | 0 => []
  | i + 1 => unfT us p i ++ [expd (unfT us p i) i p + unfold1 (us.getD i 0)]
theorem unfT_length (us : List Int) (p i : Nat) : (unfT us p i).length = i := by
  induction i with
  | zero => rfl
  | succ i ih => simp [unfT, ih]

theorem expd_congr (xs ys : List Int) (i p : Nat) (h : ∀ j, j < i → xs.getD j 0 = ys.getD j 0) : expd xs i p = expd ys i p := by
  unfold expd expd2 expT
  congr 1
  · split
    · rw [h _ (by omega)]
    · rfl
  · split
    · rw [h _ (by omega)]
    · rfl

theorem unfT_fold (xs : List Int) (p i : Nat) (hx : xs.length = 8) (hi : i ≤ 8) : unfT (foldeds xs p) p i = xs.take i := by
  induction i with
  | zero => simp [unfT]
  | succ i ih =>
    have ih := ih (by omega)
    have e : expd (xs.take i) i p = expd xs i p := expd_congr _ _ _ _ fun j hj => by
      simp [List.getD_eq_getElem?_getD, List.getElem?_take, hj]
    simp only [unfT]
    rw [ih, e, foldeds_at xs p i (by omega), unfold_fold, List.take_succ_eq_append_getElem (by omega)]
    congr 2
    simp [List.getD_eq_getElem?_getD, List.getElem?_eq_getElem (show i < xs.length by omega)]
    omega

theorem read_codes (us : List Int) (k j : Nat) (r : List Int) (hs : Small us) (hj : j ≤ us.length) :
    restR (codesTo us k j ++ r) k j = r ∧ numsU (codesTo us k j ++ r) k j = us.take j ∧ okR (codesTo us k j ++ r) k j = true := by
  induction j generalizing r with
  | zero => simp [codesTo, restR, numsU, okR]
  | succ j ih =>
    obtain ⟨h1, h2, h3⟩ := ih (codeU (us.getD j 0).toNat k ++ r) (by omega)
    have e : codesTo us k (j + 1) ++ r = codesTo us k j ++ (codeU (us.getD j 0).toNat k ++ r) := by simp [codesTo]
    rw [e]
    refine ⟨?_, ?_, ?_⟩
    · simp only [restR]; rw [h1, stepR_code]
    · simp only [numsU]
      rw [h1, h2, stepU_code, List.take_succ_eq_append_getElem (by omega)]
      congr 2
      have := (hs j).1
      have e2 : us.getD j 0 = us[j] := by simp [List.getD_eq_getElem?_getD, List.getElem?_eq_getElem (show j < us.length by omega)]
      rw [← e2]
      omega
    · simp only [okR]; rw [h1, h3, stepOk_code]; rfl

theorem read_cut (us : List Int) (k : Nat) (hs : Small us) (hl : us.length = 8) : okR (codesTo us k 8).dropLast k 8 = false := by
  have e : (codesTo us k 8).dropLast = codesTo us k 7 ++ (codeU (us.getD 7 0).toNat k).dropLast := by
    show (codesTo us k 7 ++ codeU (us.getD 7 0).toNat k).dropLast = _
    exact List.dropLast_append_of_ne_nil (by simp [codeU])
  obtain ⟨h1, _, _⟩ := read_codes us k 7 (codeU (us.getD 7 0).toNat k).dropLast hs (by omega)
  rw [e]
  simp only [okR.eq_2 _ _ 7]
  rw [h1, stepOk_cut, Bool.and_false]

theorem stepS_le (xs : List Int) (s : Nat × Nat × Int) (p k : Nat) : (stepS xs s p k).2.2 ≤ s.2.2 ∧ (stepS xs s p k).2.2 ≤ bitsF (foldeds xs p) k := by
  unfold stepS
  split
  · exact ⟨by simp; omega, by simp⟩
  · exact ⟨by omega, by omega⟩
theorem innerS_le (xs : List Int) (s : Nat × Nat × Int) (p k : Nat) : (innerS xs s p k).2.2 ≤ s.2.2 ∧ ∀ j, j < k → (innerS xs s p k).2.2 ≤ bitsF (foldeds xs p) j := by
  induction k with
  | zero => exact ⟨by simp [innerS], fun j hj => by omega⟩
  | succ k ih =>
    have h := stepS_le xs (innerS xs s p k) p k
    refine ⟨Int.le_trans h.1 ih.1, fun j hj => ?_⟩
    rcases Nat.lt_or_ge j k with hc | hc
    · exact Int.le_trans h.1 (ih.2 j hc)
    · obtain rfl : j = k := by omega
      exact h.2
theorem outerS_le (xs : List Int) (s : Nat × Nat × Int) (p : Nat) : ∀ q, q < p → ∀ j, j < 18 → (outerS xs s p).2.2 ≤ bitsF (foldeds xs q) j := by
  induction p with
  | zero => intro q hq; omega
  | succ p ih =>
    intro q hq j hj
    have h := innerS_le xs (outerS xs s p) p 18
    rcases Nat.lt_or_ge q p with hc | hc
    · exact Int.le_trans h.1 (ih q hc j hj)
    · obtain rfl : q = p := by omega
      exact h.2 j hj

theorem packT_length (xs : List Int) (hb : Bnd xs 32767) : ((packT xs).length : Int) = bitsF (foldeds xs (shortS xs).1) (shortS xs).2.1 := by
  unfold packT bitsF
  have := packW_length (foldeds xs (shortS xs).1) (shortS xs).1 (shortS xs).2.1 8 (foldeds_small xs _ hb) (by rw [foldeds_length]; omega)
  exact this
theorem packT_least (xs : List Int) (hb : Bnd xs 32767) (p k : Nat) (hp : p < 3) (hk : k < 18) : ((packT xs).length : Int) ≤ bitsF (foldeds xs p) k := by
  have e := packT_length xs hb
  have g := (shortS_good xs).2.2
  have l : (shortS xs).2.2 ≤ bitsF (foldeds xs p) k := by rw [shortS]; exact outerS_le xs (startS xs) 3 p hp k hk
  generalize shortS xs = s at e g l
  rw [e, ← g]
  exact l

theorem bitsTo_le (us : List Int) (k j : Nat) (M : Int) (hj : j ≤ us.length) (h : ∀ i, i < us.length → us.getD i 0 / 2 ^ k ≤ M) : bitsTo us k j ≤ 7 + (M + 1 + k) * j := by
  induction j with
  | zero => rw [bitsTo_zero]; simp
  | succ j ih =>
    rw [bitsTo_step us k j (by omega)]
    have a := ih (by omega)
    have b := h j (by omega)
    have e : (M + 1 + (k : Int)) * ((j + 1 : Nat) : Int) = (M + 1 + k) * j + (M + 1 + k) := by
      rw [Int.natCast_add, Int.mul_add]; simp
    rw [e]
    omega
theorem bitsTo_ge (us : List Int) (k j : Nat) (hj : j ≤ us.length) (hs : Small us) : 7 + (j : Int) ≤ bitsTo us k j := by
  induction j with
  | zero => rw [bitsTo_zero]; simp
  | succ j ih =>
    rw [bitsTo_step us k j (by omega)]
    have a := ih (by omega)
    have b := quo_bd (us.getD j 0) k (hs j).1 (hs j).2
    omega
theorem packT_bd (xs : List Int) (hb : Bnd xs 32767) : 15 ≤ (packT xs).length ∧ (packT xs).length ≤ 159 := by
  refine ⟨?_, ?_⟩
  · have h1 := packT_length xs hb
    have h2 := bitsTo_ge (foldeds xs (shortS xs).1) (shortS xs).2.1 8 (by rw [foldeds_length]; omega) (foldeds_small xs _ hb)
    unfold bitsF at h1
    omega
  · have h1 := packT_least xs hb 0 16 (by omega) (by omega)
    have h2 := bitsTo_le (foldeds xs 0) 16 8 0 (by rw [foldeds_length]; omega) (fun i hi => by
      rw [foldeds_length] at hi
      rw [foldeds_at xs 0 i hi]
      have e : expd xs i 0 = 0 := by
        unfold expd expd2 expT pred0 pred1
        simp
      have := hb i
      rw [e]
      unfold fold1
      split <;> omega)
    unfold bitsF at h1
    omega

theorem headB_two (p k : Nat) (r : List Int) : (headB p k ++ r).take 2 = bitsOf p 2 := by
  unfold headB
  rw [List.append_assoc, List.take_append_of_le_length (by rw [bitsOf_length]; omega), List.take_of_length_le (by rw [bitsOf_length]; omega)]
theorem headB_five (p k : Nat) (r : List Int) : ((headB p k ++ r).drop 2).take 5 = bitsOf k 5 := by
  unfold headB
  rw [List.append_assoc, List.drop_append, List.drop_of_length_le (by rw [bitsOf_length]; omega), bitsOf_length]
  rw [List.nil_append, Nat.sub_self, List.drop_zero, List.take_append_of_le_length (by rw [bitsOf_length]; omega), List.take_of_length_le (by rw [bitsOf_length]; omega)]
theorem headB_rest (p k : Nat) (r : List Int) : (headB p k ++ r).drop 7 = r := by
  rw [List.drop_append, List.drop_of_length_le (by rw [headB_length]; omega), headB_length]
  simp
theorem codeU_01 (u k : Nat) : Bits01 (codeU u k) := by
  intro x hx
  simp only [codeU, List.mem_append, List.mem_cons] at hx
  rcases hx with hx | hx | hx
  · exact .inr (List.eq_of_mem_replicate hx)
  · exact .inl hx
  · exact bitsOf_01 u k x hx
theorem codesTo_01 (us : List Int) (k i : Nat) : Bits01 (codesTo us k i) := by
  induction i with
  | zero => intro x hx; simp [codesTo] at hx
  | succ i ih =>
    intro x hx
    simp only [codesTo, List.mem_append] at hx
    exact hx.elim (ih x) (codeU_01 _ _ x)
theorem packT_01 (xs : List Int) : Bits01 (packT xs) := by
  intro x hx
  simp only [packT, packW, headB, List.mem_append] at hx
  rcases hx with (hx | hx) | hx
  · exact bitsOf_01 _ _ x hx
  · exact bitsOf_01 _ _ x hx
  · exact codesTo_01 _ _ _ x hx

end Go.Proofs.YtkemoffagdilgaaGreatDoor

namespace Go.Proofs.YtkemoffagdilgaaGreatDoor

/-- What BitsOf has made: zeros, and then the last bits of a number. -/
def bitRow (m c t : Nat) : List Int := List.replicate t 0 ++ (bitsOf m c).drop t
theorem bitRow_length (m c t : Nat) (h : t ≤ c) : (bitRow m c t).length = c := by
  simp only [bitRow, List.length_append, List.length_replicate, List.length_drop, bitsOf_length]; omega
theorem bitRow_zero (m c : Nat) : bitRow m c 0 = bitsOf m c := by simp [bitRow]
theorem bitRow_all (m c : Nat) : bitRow m c c = List.replicate c 0 := by
  simp [bitRow, bitsOf_length]
theorem bitRow_set (m c t : Nat) (h : t < c) : (bitRow m c (t + 1)).set t ((m / 2 ^ (c - 1 - t) % 2 : Nat) : Int) = bitRow m c t := by
  have e1 : bitRow m c (t + 1) = List.replicate t 0 ++ (0 :: (bitsOf m c).drop (t + 1)) := by
    simp [bitRow, List.replicate_succ', List.append_assoc]
  have e2 : (bitsOf m c).drop t = ((m / 2 ^ (c - 1 - t) % 2 : Nat) : Int) :: (bitsOf m c).drop (t + 1) := by
    rw [List.drop_eq_getElem_cons (by rw [bitsOf_length]; exact h)]
    congr 1
    simp [bitsOf]
  rw [e1, bitRow, e2, List.set_append_right _ _ (by simp)]
  simp

theorem bitsOf_mod (m c : Nat) : bitsOf (m % 2 ^ c) c = bitsOf m c := by
  induction c generalizing m with
  | zero => simp [bitsOf]
  | succ c ih =>
    have e : m % 2 ^ (c + 1) = m % 2 + 2 * (m / 2 % 2 ^ c) := by rw [Nat.pow_succ, Nat.mul_comm (2 ^ c) 2, Nat.mod_mul]
    have e1 : m % 2 ^ (c + 1) / 2 = m / 2 % 2 ^ c := by rw [e]; omega
    have e2 : m % 2 ^ (c + 1) % 2 = m % 2 := by rw [e]; omega
    rw [bitsOf_succ, bitsOf_succ, e1, e2, ih]

def pw (k : Nat) : Int := 2 ^ k
theorem pw_bd (k : Nat) (h : k ≤ 17) : 1 ≤ pw k ∧ pw k ≤ 131072 := by
  unfold pw
  exact (by decide : ∀ j : Fin 18, 1 ≤ (2 : Int) ^ j.val ∧ (2 : Int) ^ j.val ≤ 131072) ⟨k, by omega⟩
theorem pw_succ (k : Nat) : pw (k + 1) = 2 * pw k := by unfold pw; rw [Int.pow_succ]; omega

theorem pw_nat (k : Nat) : pw k = ((2 ^ k : Nat) : Int) := by unfold pw; simp
theorem expd_zero (xs : List Int) (i : Nat) : expd xs i 0 = 0 := by unfold expd expd2 expT pred0 pred1; simp
theorem expd_one_first (xs : List Int) : expd xs 0 1 = 0 := by unfold expd expd2 expT pred0 pred1; simp
theorem expd_one (xs : List Int) (q : Nat) : expd xs (q + 1) 1 = xs.getD q 0 := by
  unfold expd expd2 expT pred0 pred1
  simp
theorem expd_two_first (xs : List Int) : expd xs 0 2 = 0 := by unfold expd expd2 expT pred0 pred1; simp
theorem expd_two_second (xs : List Int) : expd xs 1 2 = 2 * xs.getD 0 0 := by unfold expd expd2 expT pred0 pred1; simp
theorem expd_two (xs : List Int) (q : Nat) : expd xs (q + 2) 2 = 2 * xs.getD (q + 1) 0 - xs.getD q 0 := by
  unfold expd expd2 expT pred0 pred1
  simp
  omega

end Go.Proofs.YtkemoffagdilgaaGreatDoor

namespace Go.Proofs.YtkemoffagdilgaaGreatDoor

/-- Numbers with zeros behind them, eight in all. -/
def padU (xs : List Int) : List Int := xs ++ List.replicate (8 - xs.length) 0
theorem padU_length (xs : List Int) (h : xs.length ≤ 8) : (padU xs).length = 8 := by simp [padU]; omega
theorem padU_nil : padU [] = [0, 0, 0, 0, 0, 0, 0, 0] := rfl
theorem padU_full (xs : List Int) (h : xs.length = 8) : padU xs = xs := by simp [padU, h]
theorem padU_set (xs : List Int) (u : Int) (h : xs.length < 8) : (padU xs).set xs.length u = padU (xs ++ [u]) := by
  unfold padU
  rw [List.set_append_right _ _ (by omega)]
  have e : 8 - xs.length = (8 - (xs ++ [u]).length) + 1 := by simp; omega
  rw [e, Nat.sub_self, List.replicate_succ]
  simp
theorem padU_at (xs : List Int) (j : Nat) (h : j < xs.length) : (padU xs).getD j 0 = xs.getD j 0 := by
  simp [padU, List.getD_eq_getElem?_getD, List.getElem?_append_left h]

def rdOk (l : List Int) (k : Nat) : Bool := okR l k 8 && decide ((restR l k 8).length = 0)
def rdXs (l : List Int) (k : Nat) : List Int := if okR l k 8 then numsU l k 8 else List.replicate 8 0

theorem rd_stop (l : List Int) (k j : Nat) (hj : j < 8) (h : stepOk (restR l k j) k = false) : okR l k 8 = false := by
  cases he : okR l k 8 with
  | false => rfl
  | true =>
    have := okR_mono l k (j + 1) 8 (by omega) he
    simp [okR, h] at this
theorem rdOk_stop (l : List Int) (k j : Nat) (hj : j < 8) (h : stepOk (restR l k j) k = false) : rdOk l k = false := by
  simp [rdOk, rd_stop l k j hj h]
theorem rdXs_stop (l : List Int) (k j : Nat) (hj : j < 8) (h : stepOk (restR l k j) k = false) : rdXs l k = List.replicate 8 0 := by
  simp [rdXs, rd_stop l k j hj h]

theorem restR_len (l : List Int) (k j : Nat) : (restR l k j).length ≤ l.length := by
  induction j with
  | zero => exact Nat.le_refl _
  | succ j ih => simp only [restR, stepR, List.length_drop]; omega
theorem restR_01 (l : List Int) (k j : Nat) (h : Bits01 l) : Bits01 (restR l k j) := by
  induction j with
  | zero => exact h
  | succ j ih => exact fun x hx => ih x (List.mem_of_mem_drop hx)

theorem stepU_bd (l : List Int) (k : Nat) (h : Bits01 l) (hk : k ≤ 17) (hn : l.length ≤ 400) : 0 ≤ stepU l k ∧ stepU l k ≤ 60000000 := by
  unfold stepU
  have h1 := numT_bd ((l.drop (onesL l + 1)).take k) (fun x hx => h x (List.mem_of_mem_drop (List.mem_of_mem_take hx)))
  have h2 : ((l.drop (onesL l + 1)).take k).length ≤ k := by rw [List.length_take]; omega
  have h3 : (2 : Int) ^ ((l.drop (onesL l + 1)).take k).length ≤ 131072 := by
    have : ((2 ^ ((l.drop (onesL l + 1)).take k).length : Nat) : Int) ≤ ((2 ^ 17 : Nat) : Int) := by exact_mod_cast Nat.pow_le_pow_right (by omega) (by omega)
    simpa using this
  have h4 := pw_bd k hk
  unfold pw at h4
  have h5 := onesL_le l
  have h6 : (0 : Int) ≤ (onesL l : Int) * 2 ^ k := Int.mul_nonneg (by omega) (by omega)
  have h7 : (onesL l : Int) * 2 ^ k ≤ 400 * 131072 := Int.mul_le_mul (by omega) h4.2 (by omega) (by omega)
  omega
theorem numsU_bd (l : List Int) (k j : Nat) (h : Bits01 l) (hk : k ≤ 17) (hn : l.length ≤ 400) : ∀ x ∈ numsU l k j, 0 ≤ x ∧ x ≤ 60000000 := by
  induction j with
  | zero => intro x hx; simp [numsU] at hx
  | succ j ih =>
    intro x hx
    simp only [numsU, List.mem_append, List.mem_singleton] at hx
    rcases hx with hx | rfl
    · exact ih x hx
    · exact stepU_bd _ k (restR_01 l k j h) hk (Nat.le_trans (restR_len l k j) hn)

theorem unfold1_bd (u : Int) (h0 : 0 ≤ u) (h1 : u ≤ 60000000) : -60000000 ≤ unfold1 u ∧ unfold1 u ≤ 60000000 := by
  unfold unfold1
  split <;> omega

end Go.Proofs.YtkemoffagdilgaaGreatDoor

namespace Go.Proofs.YtkemoffagdilgaaGreatDoor

def bq : Nat → Int
  | 0 => 0
  | i + 1 => 4 * bq i + 60000000
theorem bq_nonneg (i : Nat) : 0 ≤ bq i := by
  induction i with
  | zero => simp [bq]
  | succ i ih => simp only [bq]; omega
theorem bq_7 (i : Nat) (h : i ≤ 7) : bq i ≤ 327660000000 := by
  match i, h with
  | 0, _ => decide
  | 1, _ => decide
  | 2, _ => decide
  | 3, _ => decide
  | 4, _ => decide
  | 5, _ => decide
  | 6, _ => decide
  | 7, _ => decide

theorem getD_snoc (l : List Int) (v : Int) (j : Nat) : (l ++ [v]).getD j 0 = if j < l.length then l.getD j 0 else if j = l.length then v else 0 := by
  simp only [List.getD_eq_getElem?_getD]
  split
  · rename_i h; rw [List.getElem?_append_left h]
  · split
    · rename_i h; subst h; simp
    · rename_i h h2; rw [List.getElem?_eq_none (by simp; omega)]; rfl

theorem unfT_bq (us : List Int) (p : Nat) (hu : ∀ j, 0 ≤ us.getD j 0 ∧ us.getD j 0 ≤ 60000000) (i : Nat) : Bnd (unfT us p i) (bq i) := by
  induction i with
  | zero => intro j; simp [unfT, bq]
  | succ i ih =>
    have h0 := bq_nonneg i
    intro j
    simp only [unfT]
    rw [getD_snoc, unfT_length]
    simp only [bq]
    split
    · have := ih j; omega
    · split
      · have a := expd_bd (unfT us p i) i p (bq i) ih h0
        have b := unfold1_bd _ (hu i).1 (hu i).2
        omega
      · omega
theorem Bnd.pad {xs : List Int} {M : Int} (h : Bnd xs M) (hM : 0 ≤ M) : Bnd (padU xs) M := by
  intro j
  rcases Nat.lt_or_ge j xs.length with hc | hc
  · rw [padU_at xs j hc]; exact h j
  · have e : (padU xs).getD j 0 = 0 := by
      simp only [padU, List.getD_eq_getElem?_getD]
      rw [List.getElem?_append_right hc, List.getElem?_replicate]
      split <;> rfl
    rw [e]; omega
theorem unfT_pad_bnd (us : List Int) (p : Nat) (hu : ∀ j, 0 ≤ us.getD j 0 ∧ us.getD j 0 ≤ 60000000) (i : Nat) (hi : i ≤ 7) : Bnd (padU (unfT us p i)) 327660000000 := by
  have h := (unfT_bq us p hu i).pad (bq_nonneg i)
  have b := bq_7 i hi
  intro j
  have := h j
  omega
theorem expd_pad (us : List Int) (p i : Nat) : expd (padU (unfT us p i)) i p = expd (unfT us p i) i p :=
  expd_congr _ _ _ _ fun j hj => padU_at _ _ (by rw [unfT_length]; exact hj)
theorem unfT_step (us : List Int) (p i : Nat) (hi : i < 8) : (padU (unfT us p i)).set i (expd (unfT us p i) i p + unfold1 (us.getD i 0)) = padU (unfT us p (i + 1)) := by
  have := padU_set (unfT us p i) (expd (unfT us p i) i p + unfold1 (us.getD i 0)) (by rw [unfT_length]; exact hi)
  rw [unfT_length] at this
  exact this
theorem numsU_getD (l : List Int) (k j : Nat) (h : Bits01 l) (hk : k ≤ 17) (hn : l.length ≤ 400) : ∀ i, 0 ≤ (numsU l k j).getD i 0 ∧ (numsU l k j).getD i 0 ≤ 60000000 := by
  intro i
  rcases Nat.lt_or_ge i (numsU l k j).length with hc | hc
  · have e : (numsU l k j).getD i 0 = (numsU l k j)[i] := by simp [List.getD_eq_getElem?_getD, List.getElem?_eq_getElem hc]
    rw [e]; exact numsU_bd l k j h hk hn _ (List.getElem_mem hc)
  · have e : (numsU l k j).getD i 0 = 0 := by simp [List.getD_eq_getElem?_getD, List.getElem?_eq_none hc]
    rw [e]; omega

end Go.Proofs.YtkemoffagdilgaaGreatDoor

namespace Go.Proofs.YtkemoffagdilgaaGreatDoor

def b01 (l : List Int) : Bool := l.all fun x => x == 0 || x == 1
theorem b01_iff (l : List Int) : b01 l = true ↔ Bits01 l := by
  unfold b01 Bits01
  simp [List.all_eq_true]
theorem b01_drop (l : List Int) (k : Nat) (h : k < l.length) : b01 (l.drop k) = ((l.getD k 0 == 0 || l.getD k 0 == 1) && b01 (l.drop (k + 1))) := by
  have e : l.getD k 0 = l[k] := by simp [List.getD_eq_getElem?_getD, List.getElem?_eq_getElem h]
  rw [List.drop_eq_getElem_cons h, e]
  simp only [b01, List.all_cons]

theorem ones_at (l : List Int) (t : Nat) (h : Bits01 l) (ht : t < onesL l) : t < l.length ∧ l.getD t 0 = 1 := by
  have h1 := onesL_le l
  refine ⟨by omega, ?_⟩
  have e : l.getD t 0 = l[t] := by simp [List.getD_eq_getElem?_getD, List.getElem?_eq_getElem (show t < l.length by omega)]
  have := List.not_of_lt_findIdx (p := (· == 0)) (xs := l) (by unfold onesL at ht; exact ht)
  rw [e]
  rcases h l[t] (List.getElem_mem _) with h0 | h0
  · rw [h0] at this; simp at this
  · exact h0
theorem ones_end (l : List Int) (h : onesL l < l.length) : l.getD (onesL l) 0 = 0 := by
  have e : l.getD (onesL l) 0 = l[onesL l] := by simp [List.getD_eq_getElem?_getD, List.getElem?_eq_getElem h]
  have := List.findIdx_getElem (p := (· == 0)) (xs := l) (w := by unfold onesL at h; exact h)
  have h2 : (l[onesL l] == 0) = true := this
  rw [e]
  exact eq_of_beq h2
theorem getD_drop (l : List Int) (a t : Nat) : (l.drop a).getD t 0 = l.getD (a + t) 0 := by
  simp [List.getD_eq_getElem?_getD, List.getElem?_drop]

theorem unfT_mono (us : List Int) (p i j : Nat) (h : i ≤ j) : ∀ x ∈ unfT us p i, x ∈ unfT us p j := by
  induction j with
  | zero => obtain rfl : i = 0 := by omega
            exact fun x hx => hx
  | succ j ih =>
    intro x hx
    rcases Nat.lt_or_ge i (j + 1) with hc | hc
    · simp only [unfT, List.mem_append]; exact .inl (ih (by omega) x hx)
    · obtain rfl : i = j + 1 := by omega
      exact hx

/-- How many bits have been read with i codes. -/
def atR (l : List Int) (k : Nat) : Nat → Nat
  | 0 => 0
  | i + 1 => atR l k i + (onesL (restR l k i) + 1 + k)
theorem restR_drop (l : List Int) (k i : Nat) : restR l k i = l.drop (atR l k i) := by
  induction i with
  | zero => rfl
  | succ i ih =>
    simp only [restR, stepR, atR]
    rw [ih, List.drop_drop, ← ih]

theorem unfold1_ref (u : Nat) (h : u % 2 = 1) : (-((u : Int) + 1)).tdiv 2 = unfold1 u := by
  unfold unfold1
  rw [if_pos (by omega), Int.neg_tdiv, Int.tdiv_eq_ediv_of_nonneg (by omega)]
  omega

end Go.Proofs.YtkemoffagdilgaaGreatDoor

