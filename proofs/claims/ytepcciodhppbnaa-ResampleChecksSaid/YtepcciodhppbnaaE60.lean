import Derived.Test.YtepcciodhppbnaaE50
import Derived.Test.YtepcciodhppbnaaE32

namespace Go.Proofs.Ytepcciodhppbnaa
open Go.RowKit

/-! ### filters as mathematics -/
def fsP (cs xs : List Int) (n : Nat) : Nat → Int
  | 0 => 0
  | k + 1 => fsP cs xs n k + (if k ≤ n then cs.getD k 0 * xs.getD (n - k) 0 else 0)
def fsum (cs xs : List Int) (n : Nat) : Int := fsP cs xs n cs.length
def filt (cs : List Int) (b : Int) (xs : List Int) : List Int := (List.range xs.length).map fun n => fsum cs xs n / b
theorem filt_len (cs : List Int) (b : Int) (xs : List Int) : (filt cs b xs).length = xs.length := by simp [filt]
theorem filt_at (cs : List Int) (b : Int) (xs : List Int) (n : Nat) (h : n < xs.length) : (filt cs b xs).getD n 0 = fsum cs xs n / b := by
  simp [filt, h]
theorem filt_take (cs : List Int) (b : Int) (xs : List Int) (k : Nat) (h : k < xs.length) : (filt cs b xs).take (k + 1) = (filt cs b xs).take k ++ [fsum cs xs k / b] := by
  have hl : k < (filt cs b xs).length := by rw [filt_len]; exact h
  rw [List.take_succ_eq_append_getElem hl]
  simp [filt]
theorem fsP_stop (cs xs : List Int) (n : Nat) : ∀ k, n + 1 ≤ k → fsP cs xs n k = fsP cs xs n (n + 1)
  | 0, h => absurd h (by omega)
  | k + 1, h => by
    rcases (by omega : k = n ∨ n + 1 ≤ k) with rfl | h1
    · rfl
    · show fsP cs xs n k + (if k ≤ n then _ else 0) = _
      rw [if_neg (by omega), fsP_stop cs xs n k h1, Int.add_zero]
theorem fsP_over (cs xs : List Int) (n : Nat) : ∀ k, cs.length ≤ k → fsP cs xs n k = fsum cs xs n
  | 0, h => by rw [fsum, (by omega : cs.length = 0)]
  | k + 1, h => by
    rcases (by omega : cs.length = k + 1 ∨ cs.length ≤ k) with h1 | h1
    · rw [fsum, h1]
    · show fsP cs xs n k + (if k ≤ n then _ else 0) = _
      rw [fsP_over cs xs n k h1, List.getD_eq_getElem?_getD (l := cs), List.getElem?_eq_none h1]
      simp
theorem fsP_ends (cs xs : List Int) (n : Nat) (k : Nat) (h : cs.length ≤ k ∨ n < k) : fsP cs xs n k = fsum cs xs n := by
  rcases h with h | h
  · exact fsP_over cs xs n k h
  · rcases (by omega : cs.length ≤ k ∨ k ≤ cs.length) with h1 | h1
    · exact fsP_over cs xs n k h1
    · rw [fsum, fsP_stop cs xs n k (by omega), fsP_stop cs xs n cs.length (by omega)]
/-- What a filter answers, as sums over functions. -/
def dotF : List Int → (Int → Int) → Int → Int
  | [], _, _ => 0
  | c :: l, x, n => c * x n + dotF l x (n - 1)
def seqF (xs : List Int) (i : Int) : Int := if 0 ≤ i then xs.getD i.toNat 0 else 0
theorem seqF_nat (xs : List Int) (i : Nat) : seqF xs i = xs.getD i 0 := by
  unfold seqF
  rw [if_pos (by omega), Int.toNat_natCast]
theorem fsP_dot (cs xs : List Int) (n : Nat) : ∀ k, k ≤ cs.length → fsP cs xs n k + dotF (cs.drop k) (seqF xs) (n - k) = dotF cs (seqF xs) n
  | 0, _ => by simp [fsP]
  | k + 1, h => by
    have ih := fsP_dot cs xs n k (by omega)
    rw [List.drop_eq_getElem_cons (by omega : k < cs.length)] at ih
    rw [← ih]
    have e1 : cs.getD k 0 = cs[k] := by rw [List.getD_eq_getElem?_getD, List.getElem?_eq_getElem (by omega)]; rfl
    have e2 : (if k ≤ n then cs.getD k 0 * xs.getD (n - k) 0 else 0) = cs[k] * seqF xs ((n : Int) - k) := by
      rw [e1]
      by_cases hk : k ≤ n
      · rw [if_pos hk, show (n : Int) - k = ((n - k : Nat) : Int) by omega, seqF_nat]
      · rw [if_neg hk]
        unfold seqF
        rw [if_neg (by omega), Int.mul_zero]
    have e3 : (n : Int) - ((k + 1 : Nat) : Int) = (n : Int) - (k : Int) - 1 := by omega
    show fsP cs xs n k + (if k ≤ n then cs.getD k 0 * xs.getD (n - k) 0 else 0) + _ = _
    rw [e2, e3]
    show _ = fsP cs xs n k + (cs[k] * seqF xs ((n : Int) - k) + dotF (cs.drop (k + 1)) (seqF xs) ((n : Int) - k - 1))
    omega
theorem fsum_dot (cs xs : List Int) (n : Nat) : fsum cs xs n = dotF cs (seqF xs) n := by
  have h := fsP_dot cs xs n cs.length (Nat.le_refl _)
  rw [List.drop_eq_nil_of_le (Nat.le_refl _)] at h
  simpa [dotF, fsum] using h
theorem dotF_congr : ∀ (g : List Int) (x y : Int → Int) (n : Int), (∀ m, m ≤ n → x m = y m) → dotF g x n = dotF g y n
  | [], _, _, _, _ => rfl
  | c :: l, x, y, n, h => by
    show c * x n + dotF l x (n - 1) = c * y n + dotF l y (n - 1)
    rw [h n (Int.le_refl _), dotF_congr l x y (n - 1) (fun m hm => h m (by omega))]
theorem dotF_lin : ∀ (g : List Int) (c : Int) (x y : Int → Int) (n : Int), dotF g (fun m => c * x m + y m) n = c * dotF g x n + dotF g y n
  | [], c, _, _, _ => by simp [dotF]
  | d :: l, c, x, y, n => by
    show d * (c * x n + y n) + dotF l (fun m => c * x m + y m) (n - 1) = c * (d * x n + dotF l x (n - 1)) + (d * y n + dotF l y (n - 1))
    rw [dotF_lin l c x y (n - 1), Int.mul_add, Int.mul_add]
    have : d * (c * x n) = c * (d * x n) := by rw [← Int.mul_assoc, ← Int.mul_assoc, Int.mul_comm d c]
    omega
theorem dotF_shift : ∀ (g : List Int) (y : Int → Int) (n : Int), dotF g (fun m => y (m - 1)) n = dotF g y (n - 1)
  | [], _, _ => rfl
  | d :: l, y, n => by
    show d * y (n - 1) + dotF l (fun m => y (m - 1)) (n - 1) = d * y (n - 1) + dotF l y (n - 1 - 1)
    rw [dotF_shift l y (n - 1)]
theorem dotF_comm : ∀ (f g : List Int) (x : Int → Int) (n : Int), dotF f (dotF g x) n = dotF g (dotF f x) n
  | [], g, x, n => by
    have h : ∀ (g : List Int) (n : Int), dotF g (fun _ => 0) n = 0 := by
      intro g
      induction g with
      | nil => intro n; rfl
      | cons c l ih => intro n; show c * 0 + dotF l (fun _ => 0) (n - 1) = 0; rw [ih]; simp
    show 0 = dotF g (fun _ => 0) n
    rw [h]
  | c :: l, g, x, n => by
    show c * dotF g x n + dotF l (dotF g x) (n - 1) = dotF g (fun m => c * x m + dotF l x (m - 1)) n
    rw [dotF_comm l g x (n - 1), dotF_lin g c x (fun m => dotF l x (m - 1)) n, dotF_shift g (dotF l x) n]
theorem dotF_neg : ∀ (g : List Int) (x : Int → Int) (n : Int), (∀ m, m < 0 → x m = 0) → n < 0 → dotF g x n = 0
  | [], _, _, _, _ => rfl
  | c :: l, x, n, h, hn => by
    show c * x n + dotF l x (n - 1) = 0
    rw [h n hn, dotF_neg l x (n - 1) h (by omega)]
    simp
theorem seqF_neg (xs : List Int) (m : Int) (h : m < 0) : seqF xs m = 0 := by unfold seqF; rw [if_neg (by omega)]
/-- A sum of a function's values times a signal's. -/
def sumF (h x : Int → Int) : Nat → Int → Int
  | 0, _ => 0
  | k + 1, n => h 0 * x n + sumF (fun m => h (m + 1)) x k (n - 1)
theorem sumF_lin : ∀ (k : Nat) (c : Int) (h i x : Int → Int) (n : Int), sumF (fun m => c * h m + i m) x k n = c * sumF h x k n + sumF i x k n
  | 0, c, _, _, _, _ => by simp [sumF]
  | k + 1, c, h, i, x, n => by
    show (c * h 0 + i 0) * x n + sumF (fun m => c * h (m + 1) + i (m + 1)) x k (n - 1) = c * (h 0 * x n + sumF (fun m => h (m + 1)) x k (n - 1)) + (i 0 * x n + sumF (fun m => i (m + 1)) x k (n - 1))
    rw [sumF_lin k c (fun m => h (m + 1)) (fun m => i (m + 1)) x (n - 1), Int.add_mul, Int.mul_add, Int.mul_assoc]
    omega
theorem sumF_zero : ∀ (k : Nat) (x : Int → Int) (n : Int), sumF (fun _ => 0) x k n = 0
  | 0, _, _ => rfl
  | k + 1, x, n => by show 0 * x n + sumF (fun _ => 0) x k (n - 1) = 0; rw [sumF_zero]; simp
theorem sumF_congr : ∀ (k : Nat) (h i x : Int → Int) (n : Int), (∀ m, 0 ≤ m → h m = i m) → sumF h x k n = sumF i x k n
  | 0, _, _, _, _, _ => rfl
  | k + 1, h, i, x, n, e => by
    show h 0 * x n + sumF (fun m => h (m + 1)) x k (n - 1) = i 0 * x n + sumF (fun m => i (m + 1)) x k (n - 1)
    rw [e 0 (Int.le_refl _), sumF_congr k (fun m => h (m + 1)) (fun m => i (m + 1)) x (n - 1) (fun m hm => e (m + 1) (by omega))]
theorem sumF_seq : ∀ (g : List Int) (k : Nat) (x : Int → Int) (n : Int), g.length ≤ k → sumF (seqF g) x k n = dotF g x n
  | [], k, x, n, _ => by
    rw [sumF_congr k (seqF []) (fun _ => 0) x n (fun m _ => by unfold seqF; split <;> simp), sumF_zero]; rfl
  | c :: l, 0, _, _, h => by simp at h
  | c :: l, k + 1, x, n, h => by
    show seqF (c :: l) 0 * x n + sumF (fun m => seqF (c :: l) (m + 1)) x k (n - 1) = c * x n + dotF l x (n - 1)
    rw [← sumF_seq l k x (n - 1) (by simpa using h), sumF_congr k (fun m => seqF (c :: l) (m + 1)) (seqF l) x (n - 1) (fun m hm => by
      unfold seqF
      rw [if_pos (by omega), if_pos hm, show (m + 1).toNat = m.toNat + 1 by omega]
      rfl)]
    rfl
theorem sumF_dot : ∀ (f g : List Int) (k : Nat) (x : Int → Int) (n : Int), f.length + g.length - 1 ≤ k → sumF (dotF f (seqF g)) x k n = dotF f (dotF g x) n
  | [], g, k, x, n, _ => by show sumF (fun _ => 0) x k n = 0; exact sumF_zero k x n
  | c :: l, g, k, x, n, h => by
    have h1 : g.length ≤ k := by simp at h; omega
    show sumF (fun m => c * seqF g m + dotF l (seqF g) (m - 1)) x k n = c * dotF g x n + dotF l (dotF g x) (n - 1)
    rw [sumF_lin k c (seqF g) (fun m => dotF l (seqF g) (m - 1)) x n, sumF_seq g k x n h1]
    congr 1
    cases k with
    | zero =>
      have hg : g = [] := List.eq_nil_of_length_eq_zero (by omega)
      subst hg
      show 0 = dotF l (dotF [] x) (n - 1)
      rw [dotF_comm l [] x (n - 1)]
      rfl
    | succ k =>
      show dotF l (seqF g) (0 - 1) * x n + sumF (fun m => dotF l (seqF g) (m + 1 - 1)) x k (n - 1) = _
      rw [dotF_neg l (seqF g) (0 - 1) (fun m hm => seqF_neg g m hm) (by omega), sumF_congr k (fun m => dotF l (seqF g) (m + 1 - 1)) (dotF l (seqF g)) x (n - 1) (fun m _ => by rw [show m + 1 - 1 = m by omega])]
      rcases Nat.eq_zero_or_pos l.length with h0 | h0
      · have hl : l = [] := List.eq_nil_of_length_eq_zero h0
        subst hl
        show 0 * x n + sumF (fun _ => 0) x k (n - 1) = 0
        rw [sumF_zero]; simp
      · rw [sumF_dot l g k x (n - 1) (by simp at h; omega)]; simp
/-- The product of two filters' polynomials. -/
def conv (cs ds : List Int) : List Int := (List.range (cs.length + ds.length - 1)).map (fsum cs ds)
theorem conv_len (cs ds : List Int) : (conv cs ds).length = cs.length + ds.length - 1 := by simp [conv]
theorem conv_seq (cs ds : List Int) (hc : 0 < cs.length) (m : Int) (hm : 0 ≤ m) : seqF (conv cs ds) m = dotF cs (seqF ds) m := by
  obtain ⟨k, rfl⟩ := Int.eq_ofNat_of_zero_le hm
  rw [seqF_nat]
  by_cases h : k < cs.length + ds.length - 1
  · rw [← fsum_dot]
    simp [conv, h]
  · have h1 : (conv cs ds).getD k 0 = 0 := by
      rw [List.getD_eq_getElem?_getD, List.getElem?_eq_none (by rw [conv_len]; omega)]; rfl
    rw [h1, ← fsum_dot]
    have h2 : ∀ j, j ≤ cs.length → fsP cs ds k j = 0 := by
      intro j
      induction j with
      | zero => intro _; rfl
      | succ j ih =>
        intro hj
        show fsP cs ds k j + (if j ≤ k then cs.getD j 0 * ds.getD (k - j) 0 else 0) = 0
        rw [ih (by omega)]
        split
        · rw [List.getD_eq_getElem?_getD (l := ds), List.getElem?_eq_none (by omega)]; simp
        · rfl
    exact (h2 cs.length (Nat.le_refl _)).symm
/-- Filtering by the product is filtering by one filter after the other. -/
theorem filt_conv (cs ds xs : List Int) (hc : 0 < cs.length) : filt (conv cs ds) 1 xs = filt ds 1 (filt cs 1 xs) := by
  apply List.ext_getElem?
  intro n
  by_cases hn : n < xs.length
  · have e1 : fsum (conv cs ds) xs n = fsum ds (filt cs 1 xs) n := by
      rw [fsum_dot, fsum_dot]
      have h1 : dotF (conv cs ds) (seqF xs) n = sumF (seqF (conv cs ds)) (seqF xs) (conv cs ds).length n := (sumF_seq _ _ _ _ (Nat.le_refl _)).symm
      rw [h1, sumF_congr _ _ (dotF cs (seqF ds)) _ _ (fun m hm => conv_seq cs ds hc m hm), sumF_dot cs ds _ _ _ (by rw [conv_len]; omega), dotF_comm]
      apply dotF_congr
      intro m hm
      rcases (by omega : m < 0 ∨ 0 ≤ m) with h | h
      · rw [dotF_neg cs (seqF xs) m (fun k hk => seqF_neg xs k hk) h, seqF_neg _ m h]
      · obtain ⟨k, rfl⟩ := Int.eq_ofNat_of_zero_le h
        rw [seqF_nat, filt_at _ _ _ _ (by omega), ← fsum_dot, Int.ediv_one]
    simp [filt, hn, e1]
  · rw [List.getElem?_eq_none (by rw [filt_len]; omega), List.getElem?_eq_none (by rw [filt_len, filt_len]; omega)]
/-! ### the greatest output -/
def sgF (c : Int) : Int := if 0 < c then 1 else if c < 0 then -1 else 0
def absS (cs : List Int) : Nat → Int
  | 0 => 0
  | k + 1 => absS cs k + absF (cs.getD k 0)
def wrst (cs : List Int) (a : Int) : List Int := cs.reverse.map fun c => sgF c * a
theorem wrst_len (cs : List Int) (a : Int) : (wrst cs a).length = cs.length := by simp [wrst]
theorem wrst_at (cs : List Int) (a : Int) (j : Nat) (h : j < cs.length) : (wrst cs a).getD (cs.length - 1 - j) 0 = sgF (cs.getD j 0) * a := by
  have h1 : cs.length - 1 - j < cs.length := by omega
  simp only [wrst, List.getD_eq_getElem?_getD, List.getElem?_map, List.getElem?_reverse h1, show cs.length - 1 - (cs.length - 1 - j) = j by omega, List.getElem?_eq_getElem h, Option.map_some, Option.getD_some]
theorem sg_abs (c a : Int) : c * (sgF c * a) = absF c * a := by
  unfold sgF absF
  rcases (by omega : 0 < c ∨ c = 0 ∨ c < 0) with h | h | h
  · rw [if_pos h, if_neg (by omega), Int.one_mul]
  · subst h; simp
  · rw [if_neg (by omega), if_pos h, if_pos h, ← Int.mul_assoc, Int.mul_neg, Int.mul_one]
theorem absS_nonneg (cs : List Int) : ∀ k, 0 ≤ absS cs k
  | 0 => Int.le_refl _
  | k + 1 => by
    have := absS_nonneg cs k
    show 0 ≤ absS cs k + absF (cs.getD k 0)
    unfold absF; split <;> omega
theorem fsP_wrst (cs : List Int) (a : Int) (h : 0 < cs.length) : ∀ k, k ≤ cs.length → fsP cs (wrst cs a) (cs.length - 1) k = absS cs k * a
  | 0, _ => by simp [fsP, absS]
  | k + 1, hk => by
    show fsP cs (wrst cs a) (cs.length - 1) k + (if k ≤ cs.length - 1 then cs.getD k 0 * (wrst cs a).getD (cs.length - 1 - k) 0 else 0) = (absS cs k + absF (cs.getD k 0)) * a
    rw [fsP_wrst cs a h k (by omega), if_pos (by omega), wrst_at cs a k (by omega), sg_abs, Int.add_mul]
theorem absF_mul (c x M : Int) (hx : -M ≤ x ∧ x ≤ M) : -(absF c * M) ≤ c * x ∧ c * x ≤ absF c * M := by
  have hM : 0 ≤ M := by omega
  unfold absF
  split
  · have h1 : (-c) * (-x) ≤ (-c) * M := Int.mul_le_mul_of_nonneg_left (by omega) (by omega)
    have h2 : (-c) * x ≤ (-c) * M := Int.mul_le_mul_of_nonneg_left (by omega) (by omega)
    rw [Int.neg_mul_neg] at h1
    rw [Int.neg_mul] at h2
    omega
  · have h1 : c * (-x) ≤ c * M := Int.mul_le_mul_of_nonneg_left (by omega) (by omega)
    have h2 : c * x ≤ c * M := Int.mul_le_mul_of_nonneg_left (by omega) (by omega)
    rw [Int.mul_neg] at h1
    omega
theorem fsP_le (cs xs : List Int) (M : Int) (hM : 0 ≤ M) (hx : ∀ k, -M ≤ xs.getD k 0 ∧ xs.getD k 0 ≤ M) (n : Nat) : ∀ k, -(absS cs k * M) ≤ fsP cs xs n k ∧ fsP cs xs n k ≤ absS cs k * M
  | 0 => by simp [fsP, absS]
  | k + 1 => by
    have ih := fsP_le cs xs M hM hx n k
    have h1 := absF_mul (cs.getD k 0) _ M (hx (n - k))
    have h2 : 0 ≤ absF (cs.getD k 0) * M := Int.mul_nonneg (by unfold absF; split <;> omega) hM
    show -((absS cs k + absF (cs.getD k 0)) * M) ≤ fsP cs xs n k + (if k ≤ n then cs.getD k 0 * xs.getD (n - k) 0 else 0) ∧ fsP cs xs n k + (if k ≤ n then cs.getD k 0 * xs.getD (n - k) 0 else 0) ≤ (absS cs k + absF (cs.getD k 0)) * M
    rw [Int.add_mul]
    split <;> omega
/-- The floor of a bounded quotient is bounded by the bound, rounded up. -/
theorem ceil_bd {S b p q g v : Int} (hq : 0 < q) (hg : 0 < g) (hS : S = g * p) (hb : b = g * q) (hv : -S ≤ v ∧ v ≤ S) : -(-((-p) / q)) ≤ v / b ∧ v / b ≤ -((-p) / q) := by
  have hb0 : 0 < b := by rw [hb]; exact Int.mul_pos hg hq
  obtain ⟨C, hC⟩ : ∃ C, -((-p) / q) = C := ⟨_, rfl⟩
  have h1 : (-C) * q ≤ -p := by
    have := Int.ediv_mul_le (-p) (show q ≠ 0 by omega)
    rw [show -C = (-p) / q by omega]; exact this
  have h2 : S ≤ C * b := by
    rw [hS, hb]
    have e : C * (g * q) = g * (C * q) := by rw [← Int.mul_assoc, ← Int.mul_assoc, Int.mul_comm C g]
    rw [e]
    rw [Int.neg_mul] at h1
    exact Int.mul_le_mul_of_nonneg_left (by omega) (by omega)
  rw [hC]
  constructor
  · rw [Int.le_ediv_iff_mul_le hb0, Int.neg_mul]; omega
  · have : v / b < C + 1 := by
      rw [Int.ediv_lt_iff_lt_mul hb0, Int.add_mul]; omega
    omega
theorem floor_eq {S b p q g : Int} (hg : 0 < g) (hS : S = g * p) (hb : b = g * q) : S / b = p / q := by
  rw [hS, hb, Int.mul_ediv_mul_of_pos _ _ hg]

end Go.Proofs.Ytepcciodhppbnaa
