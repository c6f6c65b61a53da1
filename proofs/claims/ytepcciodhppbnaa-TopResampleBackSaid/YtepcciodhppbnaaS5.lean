import Derived.Test.YtepcciodhppbnaaE50
import Derived.Test.YtepcciodhppbnaaE32

namespace Go.Proofs.Ytepcciodhppbnaa
open Go.RowKit

/-! ### filters as mathematics -/
def fsP (cs xs : List Int) (n : Nat) : Nat → Int
  | 0 => 0
  | k + 1 => fsP cs xs n k + (if k ≤ n then cs.getD k 0 * xs.getD (n - k) 0 else 0)
def fsum (cs xs : List Int) (n : Nat) : Int := fsP cs xs n cs.length
def filt (cs : List Int) (b : Int) (xs : List Int) : List Int := (List.range xs.length).map fun n => fsum cs xs n / b
theorem filt_len (cs : List Int) (b : Int) (xs : List Int) : (filt cs b xs).length = xs.length := by simp [filt]
theorem filt_at (cs : List Int) (b : Int) (xs : List Int) (n : Nat) (h : n < xs.length) : (filt cs b xs).getD n 0 = fsum cs xs n / b := by
  simp [filt, h]
theorem filt_take (cs : List Int) (b : Int) (xs : List Int) (k : Nat) (h : k < xs.length) : (filt cs b xs).take (k + 1) = (filt cs b xs).take k ++ [fsum cs xs k / b] := by
  have hl : k < (filt cs b xs).length := by rw [filt_len]; exact h
  rw [List.take_succ_eq_append_getElem hl]
  simp [filt]
theorem fsP_stop (cs xs : List Int) (n : Nat) : ∀ k, n + 1 ≤ k → fsP cs xs n k = fsP cs xs n (n + 1)
  | 0, h => absurd h (by omega)
  | k + 1, h => by
    rcases (by omega : k = n ∨ n + 1 ≤ k) with rfl | h1
    · rfl
    · show fsP cs xs n k + (if k ≤ n then _ else 0) = _
      rw [if_neg (by omega), fsP_stop cs xs n k h1, Int.add_zero]
theorem fsP_over (cs xs : List Int) (n : Nat) : ∀ k, cs.length ≤ k → fsP cs xs n k = fsum cs xs n
  | 0, h => by rw [fsum, (by omega : cs.length = 0)]
  | k + 1, h => by
    rcases (by omega : cs.length = k + 1 ∨ cs.length ≤ k) with h1 | h1
    · rw [fsum, h1]
    · show fsP cs xs n k + (if k ≤ n then _ else 0) = _
      rw [fsP_over cs xs n k h1, List.getD_eq_getElem?_getD (l := cs), List.getElem?_eq_none h1]
      simp
theorem fsP_ends (cs xs : List Int) (n : Nat) (k : Nat) (h : cs.length ≤ k ∨ n < k) : fsP cs xs n k = fsum cs xs n := by
  rcases h with h | h
  · exact fsP_over cs xs n k h
  · rcases (by omega : cs.length ≤ k ∨ k ≤ cs.length) with h1 | h1
    · exact fsP_over cs xs n k h1
    · rw [fsum, fsP_stop cs xs n k (by omega), fsP_stop cs xs n cs.length (by omega)]
/-- What a filter answers, as sums over functions. -/
def dotF : List Int → (Int → Int) → Int → Int
  | [], _, _ => 0
  | c :: l, x, n => c * x n + dotF l x (n - 1)
def seqF (xs : List Int) (i : Int) : Int := if 0 ≤ i then xs.getD i.toNat 0 else 0
theorem seqF_nat (xs : List Int) (i : Nat) : seqF xs i = xs.getD i 0 := by
  unfold seqF
  rw [if_pos (by omega), Int.toNat_natCast]
theorem fsP_dot (cs xs : List Int) (n : Nat) : ∀ k, k ≤ cs.length → fsP cs xs n k + dotF (cs.drop k) (seqF xs) (n - k) = dotF cs (seqF xs) n
  | 0, _ => by simp [fsP]
  | k + 1, h => by
    have ih := fsP_dot cs xs n k (by omega)
    rw [List.drop_eq_getElem_cons (by omega : k < cs.length)] at ih
    rw [← ih]
    have e1 : cs.getD k 0 = cs[k] := by rw [List.getD_eq_getElem?_getD, List.getElem?_eq_getElem (by omega)]; rfl
    have e2 : (if k ≤ n then cs.getD k 0 * xs.getD (n - k) 0 else 0) = cs[k] * seqF xs ((n : Int) - k) := by
      rw [e1]
      by_cases hk : k ≤ n
      · rw [if_pos hk, show (n : Int) - k = ((n - k : Nat) : Int) by omega, seqF_nat]
      · rw [if_neg hk]
        unfold seqF
        rw [if_neg (by omega), Int.mul_zero]
    have e3 : (n : Int) - ((k + 1 : Nat) : Int) = (n : Int) - (k : Int) - 1 := by omega
    show fsP cs xs n k + (if k ≤ n then cs.getD k 0 * xs.getD (n - k) 0 else 0) + _ = _
    rw [e2, e3]
    show _ = fsP cs xs n k + (cs[k] * seqF xs ((n : Int) - k) + dotF (cs.drop (k + 1)) (seqF xs) ((n : Int) - k - 1))
    omega
theorem fsum_dot (cs xs : List Int) (n : Nat) : fsum cs xs n = dotF cs (seqF xs) n := by
  have h := fsP_dot cs xs n cs.length (Nat.le_refl _)
  rw [List.drop_eq_nil_of_le (Nat.le_refl _)] at h
  simpa [dotF, fsum] using h
theorem dotF_congr : ∀ (g : List Int) (x y : Int → Int) (n : Int), (∀ m, m ≤ n → x m = y m) → dotF g x n = dotF g y n
  | [], _, _, _, _ => rfl
  | c :: l, x, y, n, h => by
    show c * x n + dotF l x (n - 1) = c * y n + dotF l y (n - 1)
    rw [h n (Int.le_refl _), dotF_congr l x y (n - 1) (fun m hm => h m (by omega))]
theorem dotF_lin : ∀ (g : List Int) (c : Int) (x y : Int → Int) (n : Int), dotF g (fun m => c * x m + y m) n = c * dotF g x n + dotF g y n
  | [], c, _, _, _ => by simp [dotF]
  | d :: l, c, x, y, n => by
    show d * (c * x n + y n) + dotF l (fun m => c * x m + y m) (n - 1) = c * (d * x n + dotF l x (n - 1)) + (d * y n + dotF l y (n - 1))
    rw [dotF_lin l c x y (n - 1), Int.mul_add, Int.mul_add]
    have : d * (c * x n) = c * (d * x n) := by rw [← Int.mul_assoc, ← Int.mul_assoc, Int.mul_comm d c]
    omega
theorem dotF_shift : ∀ (g : List Int) (y : Int → Int) (n : Int), dotF g (fun m => y (m - 1)) n = dotF g y (n - 1)
  | [], _, _ => rfl
  | d :: l, y, n => by
    show d * y (n - 1) + dotF l (fun m => y (m - 1)) (n - 1) = d * y (n - 1) + dotF l y (n - 1 - 1)
    rw [dotF_shift l y (n - 1)]
theorem dotF_comm : ∀ (f g : List Int) (x : Int → Int) (n : Int), dotF f (dotF g x) n = dotF g (dotF f x) n
  | [], g, x, n => by
    have h : ∀ (g : List Int) (n : Int), dotF g (fun _ => 0) n = 0 := by
      intro g
      induction g with
      | nil => intro n; rfl
      | cons c l ih => intro n; show c * 0 + dotF l (fun _ => 0) (n - 1) = 0; rw [ih]; simp
    show 0 = dotF g (fun _ => 0) n
    rw [h]
  | c :: l, g, x, n => by
    show c * dotF g x n + dotF l (dotF g x) (n - 1) = dotF g (fun m => c * x m + dotF l x (m - 1)) n
    rw [dotF_comm l g x (n - 1), dotF_lin g c x (fun m => dotF l x (m - 1)) n, dotF_shift g (dotF l x) n]
theorem dotF_neg : ∀ (g : List Int) (x : Int → Int) (n : Int), (∀ m, m < 0 → x m = 0) → n < 0 → dotF g x n = 0
  | [], _, _, _, _ => rfl
  | c :: l, x, n, h, hn => by
    show c * x n + dotF l x (n - 1) = 0
    rw [h n hn, dotF_neg l x (n - 1) h (by omega)]
    simp
theorem seqF_neg (xs : List Int) (m : Int) (h : m < 0) : seqF xs m = 0 := by unfold seqF; rw [if_neg (by omega)]
/-- A sum of a function's values times a signal's. -/
def sumF (h x : Int → Int) : Nat → Int → Int
  | 0, _ => 0
  | k + 1, n => h 0 * x n + sumF (fun m => h (m + 1)) x k (n - 1)
theorem sumF_lin : ∀ (k : Nat) (c : Int) (h i x : Int → Int) (n : Int), sumF (fun m => c * h m + i m) x k n = c * sumF h x k n + sumF i x k n
  | 0, c, _, _, _, _ => by simp [sumF]
  | k + 1, c, h, i, x, n => by
    show (c * h 0 + i 0) * x n + sumF (fun m => c * h (m + 1) + i (m + 1)) x k (n - 1) = c * (h 0 * x n + sumF (fun m => h (m + 1)) x k (n - 1)) + (i 0 * x n + sumF (fun m => i (m + 1)) x k (n - 1))
    rw [sumF_lin k c (fun m => h (m + 1)) (fun m => i (m + 1)) x (n - 1), Int.add_mul, Int.mul_add, Int.mul_assoc]
    omega
theorem sumF_zero : ∀ (k : Nat) (x : Int → Int) (n : Int), sumF (fun _ => 0) x k n = 0
  | 0, _, _ => rfl
  | k + 1, x, n => by show 0 * x n + sumF (fun _ => 0) x k (n - 1) = 0; rw [sumF_zero]; simp
theorem sumF_congr : ∀ (k : Nat) (h i x : Int → Int) (n : Int), (∀ m, 0 ≤ m → h m = i m) → sumF h x k n = sumF i x k n
  | 0, _, _, _, _, _ => rfl
  | k + 1, h, i, x, n, e => by
    show h 0 * x n + sumF (fun m => h (m + 1)) x k (n - 1) = i 0 * x n + sumF (fun m => i (m + 1)) x k (n - 1)
    rw [e 0 (Int.le_refl _), sumF_congr k (fun m => h (m + 1)) (fun m => i (m + 1)) x (n - 1) (fun m hm => e (m + 1) (by omega))]
theorem sumF_seq : ∀ (g : List Int) (k : Nat) (x : Int → Int) (n : Int), g.length ≤ k → sumF (seqF g) x k n = dotF g x n
  | [], k, x, n, _ => by
    rw [sumF_congr k (seqF []) (fun _ => 0) x n (fun m _ => by unfold seqF; split <;> simp), sumF_zero]; rfl
  | c :: l, 0, _, _, h => by simp at h
  | c :: l, k + 1, x, n, h => by
    show seqF (c :: l) 0 * x n + sumF (fun m => seqF (c :: l) (m + 1)) x k (n - 1) = c * x n + dotF l x (n - 1)
    rw [← sumF_seq l k x (n - 1) (by simpa using h), sumF_congr k (fun m => seqF (c :: l) (m + 1)) (seqF l) x (n - 1) (fun m hm => by
      unfold seqF
      rw [if_pos (by omega), if_pos hm, show (m + 1).toNat = m.toNat + 1 by omega]
      rfl)]
    rfl
theorem sumF_dot : ∀ (f g : List Int) (k : Nat) (x : Int → Int) (n : Int), f.length + g.length - 1 ≤ k → sumF (dotF f (seqF g)) x k n = dotF f (dotF g x) n
  | [], g, k, x, n, _ => by show sumF (fun _ => 0) x k n = 0; exact sumF_zero k x n
  | c :: l, g, k, x, n, h => by
    have h1 : g.length ≤ k := by simp at h; omega
    show sumF (fun m => c * seqF g m + dotF l (seqF g) (m - 1)) x k n = c * dotF g x n + dotF l (dotF g x) (n - 1)
    rw [sumF_lin k c (seqF g) (fun m => dotF l (seqF g) (m - 1)) x n, sumF_seq g k x n h1]
    congr 1
    cases k with
    | zero =>
      have hg : g = [] := List.eq_nil_of_length_eq_zero (by omega)
      subst hg
      show 0 = dotF l (dotF [] x) (n - 1)
      rw [dotF_comm l [] x (n - 1)]
      rfl
    | succ k =>
      show dotF l (seqF g) (0 - 1) * x n + sumF (fun m => dotF l (seqF g) (m + 1 - 1)) x k (n - 1) = _
      rw [dotF_neg l (seqF g) (0 - 1) (fun m hm => seqF_neg g m hm) (by omega), sumF_congr k (fun m => dotF l (seqF g) (m + 1 - 1)) (dotF l (seqF g)) x (n - 1) (fun m _ => by rw [show m + 1 - 1 = m by omega])]
      rcases Nat.eq_zero_or_pos l.length with h0 | h0
      · have hl : l = [] := List.eq_nil_of_length_eq_zero h0
        subst hl
        show 0 * x n + sumF (fun _ => 0) x k (n - 1) = 0
        rw [sumF_zero]; simp
      · rw [sumF_dot l g k x (n - 1) (by simp at h; omega)]; simp
/-- The product of two filters' polynomials. -/
def conv (cs ds : List Int) : List Int := (List.range (cs.length + ds.length - 1)).map (fsum cs ds)
theorem conv_len (cs ds : List Int) : (conv cs ds).length = cs.length + ds.length - 1 := by simp [conv]
theorem conv_seq (cs ds : List Int) (hc : 0 < cs.length) (m : Int) (hm : 0 ≤ m) : seqF (conv cs ds) m = dotF cs (seqF ds) m := by
  obtain ⟨k, rfl⟩ := Int.eq_ofNat_of_zero_le hm
  rw [seqF_nat]
  by_cases h : k < cs.length + ds.length - 1
  · rw [← fsum_dot]
    simp [conv, h]
  · have h1 : (conv cs ds).getD k 0 = 0 := by
      rw [List.getD_eq_getElem?_getD, List.getElem?_eq_none (by rw [conv_len]; omega)]; rfl
    rw [h1, ← fsum_dot]
    have h2 : ∀ j, j ≤ cs.length → fsP cs ds k j = 0 := by
      intro j
      induction j with
      | zero => intro _; rfl
      | succ j ih =>
        intro hj
        show fsP cs ds k j + (if j ≤ k then cs.getD j 0 * ds.getD (k - j) 0 else 0) = 0
        rw [ih (by omega)]
        split
        · rw [List.getD_eq_getElem?_getD (l := ds), List.getElem?_eq_none (by omega)]; simp
        · rfl
    exact (h2 cs.length (Nat.le_refl _)).symm
/-- Filtering by the product is filtering by one filter after the other. -/
theorem filt_conv (cs ds xs : List Int) (hc : 0 < cs.length) : filt (conv cs ds) 1 xs = filt ds 1 (filt cs 1 xs) := by
  apply List.ext_getElem?
  intro n
  by_cases hn : n < xs.length
  · have e1 : fsum (conv cs ds) xs n = fsum ds (filt cs 1 xs) n := by
      rw [fsum_dot, fsum_dot]
      have h1 : dotF (conv cs ds) (seqF xs) n = sumF (seqF (conv cs ds)) (seqF xs) (conv cs ds).length n := (sumF_seq _ _ _ _ (Nat.le_refl _)).symm
      rw [h1, sumF_congr _ _ (dotF cs (seqF ds)) _ _ (fun m hm => conv_seq cs ds hc m hm), sumF_dot cs ds _ _ _ (by rw [conv_len]; omega), dotF_comm]
      apply dotF_congr
      intro m hm
      rcases (by omega : m < 0 ∨ 0 ≤ m) with h | h
      · rw [dotF_neg cs (seqF xs) m (fun k hk => seqF_neg xs k hk) h, seqF_neg _ m h]
      · obtain ⟨k, rfl⟩ := Int.eq_ofNat_of_zero_le h
        rw [seqF_nat, filt_at _ _ _ _ (by omega), ← fsum_dot, Int.ediv_one]
    simp [filt, hn, e1]
  · rw [List.getElem?_eq_none (by rw [filt_len]; omega), List.getElem?_eq_none (by rw [filt_len, filt_len]; omega)]
/-! ### the greatest output -/
def sgF (c : Int) : Int := if 0 < c then 1 else if c < 0 then -1 else 0
def absS (cs : List Int) : Nat → Int
  | 0 => 0
  | k + 1 => absS cs k + absF (cs.getD k 0)
def wrst (cs : List Int) (a : Int) : List Int := cs.reverse.map fun c => sgF c * a
theorem wrst_len (cs : List Int) (a : Int) : (wrst cs a).length = cs.length := by simp [wrst]
theorem wrst_at (cs : List Int) (a : Int) (j : Nat) (h : j < cs.length) : (wrst cs a).getD (cs.length - 1 - j) 0 = sgF (cs.getD j 0) * a := by
  have h1 : cs.length - 1 - j < cs.length := by omega
  simp only [wrst, List.getD_eq_getElem?_getD, List.getElem?_map, List.getElem?_reverse h1, show cs.length - 1 - (cs.length - 1 - j) = j by omega, List.getElem?_eq_getElem h, Option.map_some, Option.getD_some]
theorem sg_abs (c a : Int) : c * (sgF c * a) = absF c * a := by
  unfold sgF absF
  rcases (by omega : 0 < c ∨ c = 0 ∨ c < 0) with h | h | h
  · rw [if_pos h, if_neg (by omega), Int.one_mul]
  · subst h; simp
  · rw [if_neg (by omega), if_pos h, if_pos h, ← Int.mul_assoc, Int.mul_neg, Int.mul_one]
theorem absS_nonneg (cs : List Int) : ∀ k, 0 ≤ absS cs k
  | 0 => Int.le_refl _
  | k + 1 => by
    have := absS_nonneg cs k
    show 0 ≤ absS cs k + absF (cs.getD k 0)
    unfold absF; split <;> omega
theorem fsP_wrst (cs : List Int) (a : Int) (h : 0 < cs.length) : ∀ k, k ≤ cs.length → fsP cs (wrst cs a) (cs.length - 1) k = absS cs k * a
  | 0, _ => by simp [fsP, absS]
  | k + 1, hk => by
    show fsP cs (wrst cs a) (cs.length - 1) k + (if k ≤ cs.length - 1 then cs.getD k 0 * (wrst cs a).getD (cs.length - 1 - k) 0 else 0) = (absS cs k + absF (cs.getD k 0)) * a
    rw [fsP_wrst cs a h k (by omega), if_pos (by omega), wrst_at cs a k (by omega), sg_abs, Int.add_mul]
theorem absF_mul (c x M : Int) (hx : -M ≤ x ∧ x ≤ M) : -(absF c * M) ≤ c * x ∧ c * x ≤ absF c * M := by
  have hM : 0 ≤ M := by omega
  unfold absF
  split
  · have h1 : (-c) * (-x) ≤ (-c) * M := Int.mul_le_mul_of_nonneg_left (by omega) (by omega)
    have h2 : (-c) * x ≤ (-c) * M := Int.mul_le_mul_of_nonneg_left (by omega) (by omega)
    rw [Int.neg_mul_neg] at h1
    rw [Int.neg_mul] at h2
    omega
  · have h1 : c * (-x) ≤ c * M := Int.mul_le_mul_of_nonneg_left (by omega) (by omega)
    have h2 : c * x ≤ c * M := Int.mul_le_mul_of_nonneg_left (by omega) (by omega)
    rw [Int.mul_neg] at h1
    omega
theorem fsP_le (cs xs : List Int) (M : Int) (hM : 0 ≤ M) (hx : ∀ k, -M ≤ xs.getD k 0 ∧ xs.getD k 0 ≤ M) (n : Nat) : ∀ k, -(absS cs k * M) ≤ fsP cs xs n k ∧ fsP cs xs n k ≤ absS cs k * M
  | 0 => by simp [fsP, absS]
  | k + 1 => by
    have ih := fsP_le cs xs M hM hx n k
    have h1 := absF_mul (cs.getD k 0) _ M (hx (n - k))
    have h2 : 0 ≤ absF (cs.getD k 0) * M := Int.mul_nonneg (by unfold absF; split <;> omega) hM
    show -((absS cs k + absF (cs.getD k 0)) * M) ≤ fsP cs xs n k + (if k ≤ n then cs.getD k 0 * xs.getD (n - k) 0 else 0) ∧ fsP cs xs n k + (if k ≤ n then cs.getD k 0 * xs.getD (n - k) 0 else 0) ≤ (absS cs k + absF (cs.getD k 0)) * M
    rw [Int.add_mul]
    split <;> omega
/-- The floor of a bounded quotient is bounded by the bound, rounded up. -/
theorem ceil_bd {S b p q g v : Int} (hq : 0 < q) (hg : 0 < g) (hS : S = g * p) (hb : b = g * q) (hv : -S ≤ v ∧ v ≤ S) : -(-((-p) / q)) ≤ v / b ∧ v / b ≤ -((-p) / q) := by
  have hb0 : 0 < b := by rw [hb]; exact Int.mul_pos hg hq
  obtain ⟨C, hC⟩ : ∃ C, -((-p) / q) = C := ⟨_, rfl⟩
  have h1 : (-C) * q ≤ -p := by
    have := Int.ediv_mul_le (-p) (show q ≠ 0 by omega)
    rw [show -C = (-p) / q by omega]; exact this
  have h2 : S ≤ C * b := by
    rw [hS, hb]
    have e : C * (g * q) = g * (C * q) := by rw [← Int.mul_assoc, ← Int.mul_assoc, Int.mul_comm C g]
    rw [e]
    rw [Int.neg_mul] at h1
    exact Int.mul_le_mul_of_nonneg_left (by omega) (by omega)
  rw [hC]
  constructor
  · rw [Int.le_ediv_iff_mul_le hb0, Int.neg_mul]; omega
  · have : v / b < C + 1 := by
      rw [Int.ediv_lt_iff_lt_mul hb0, Int.add_mul]; omega
    omega
theorem floor_eq {S b p q g : Int} (hg : 0 < g) (hS : S = g * p) (hb : b = g * q) : S / b = p / q := by
  rw [hS, hb, Int.mul_ediv_mul_of_pos _ _ hg]

end Go.Proofs.Ytepcciodhppbnaa


namespace Go.Proofs.Ytepcciodhppbnaa
open Go.RowKit

/-! ### filters: errors and sums -/
def fltE (cs : List Int) (b : Int) : Int := firstNZ [if cs.length = 0 then 10 else 0, if 8 < cs.length then 8 else 0, rngE (-1000) 1000 cs, rngE 1 1000 [b]]
theorem rngE_all {lo hi : Int} {xs : List Int} (h : rngE lo hi xs = 0) : ∀ x ∈ xs, lo ≤ x ∧ x ≤ hi := by
  unfold rngE at h
  by_cases h2 : fromB lo hi xs = true
  · exact fromB_all h2
  · rw [if_neg h2] at h; cases h
theorem rngE_ofall {lo hi : Int} {xs : List Int} (h : ∀ x ∈ xs, lo ≤ x ∧ x ≤ hi) : rngE lo hi xs = 0 := by
  unfold rngE
  rw [if_pos]
  unfold fromB
  rw [List.all_eq_true]
  intro x hx
  have := h x hx
  simp; omega
theorem fltE_zero {cs : List Int} {b : Int} (h : fltE cs b = 0) : (1 ≤ cs.length ∧ cs.length ≤ 8) ∧ (∀ c ∈ cs, -1000 ≤ c ∧ c ≤ 1000) ∧ 1 ≤ b ∧ b ≤ 1000 := by
  have h1 := firstNZ_zero h (if cs.length = 0 then 10 else 0) (by simp)
  have h2 := firstNZ_zero h (if 8 < cs.length then 8 else 0) (by simp)
  have h3 := firstNZ_zero h (rngE (-1000) 1000 cs) (by simp)
  have h4 := firstNZ_zero h (rngE 1 1000 [b]) (by simp)
  refine ⟨⟨?_, ?_⟩, rngE_all h3, rngE_zero h4⟩
  · rcases Nat.eq_zero_or_pos cs.length with h0 | h0
    · rw [if_pos h0] at h1; cases h1
    · omega
  · rcases Nat.lt_or_ge 8 cs.length with h0 | h0
    · rw [if_pos h0] at h2; cases h2
    · omega
theorem fltE_of {cs : List Int} {b : Int} (h : (1 ≤ cs.length ∧ cs.length ≤ 8) ∧ (∀ c ∈ cs, -1000 ≤ c ∧ c ≤ 1000) ∧ 1 ≤ b ∧ b ≤ 1000) : fltE cs b = 0 := by
  unfold fltE
  rw [if_neg (by omega), if_neg (by omega), rngE_ofall h.2.1, rngE_of h.2.2]
  rfl
theorem below4 (w : World) (o p q r : Obj) : Below w.heap.size w ((((w.alloc o).alloc p).alloc q).alloc r) := (below3 w o p q).alloc (by simp; omega) _
set_option maxRecDepth 100000 in
set_option maxHeartbeats 4000000 in
theorem CheckFilter_any (A : Option Addr) (n c : Nat) (cs : List Int) (b : Int) (w : World) (hr : RdI w A n cs) (hn : n ≤ 9223372036854775806) :
    Calls Try.prog 79 #[.agg #[.slice A n c, .int .i64 b]] w fun e w' => e = .returned (.int .i64 (fltE cs b)) ∧ Below w.heap.size w w' := by
  have CE : Hid (∀ W a d, Below w.heap.size w W → W.cell? a = some (.int .i64 (-1000)) → W.cell? d = some (.int .i64 1000) → Calls Try.prog 124 #[.slice A n c, .func (.func 117) #[] #[.pointer (some a), .pointer (some d)]] W fun e w' => e = .returned (.int .i64 (rngE (-1000) 1000 cs)) ∧ W = w') := fun W a d hb h1 h2 => checkEach_any A n c cs (-1000) 1000 a d W (hr.below hb) hn h1 h2
  have HE : Hid (fltE cs b = firstNZ [if n = 0 then 10 else 0, if 8 < n then 8 else 0, rngE (-1000) 1000 cs, rngE 1 1000 [b]]) := by show _ = _; unfold fltE; rw [hr.1]
  obtain ⟨F, hF⟩ : ∃ F, fltE cs b = F := ⟨_, rfl⟩
  rw [hF] at HE ⊢
  obtain ⟨E, hE⟩ : ∃ E, rngE (-1000) 1000 cs = E := ⟨_, rfl⟩
  rw [hE] at CE HE
  obtain ⟨G, hG⟩ : ∃ G, rngE 1 1000 [b] = G := ⟨_, rfl⟩
  rw [hG] at HE
  have CG := Lib.hid (fun a d W (ha : W.cell? a = some (.int .i64 1)) (hb : W.cell? d = some (.int .i64 1000)) => from1_any b 1 1000 a d W ha hb)
  rw [hG] at CG
  clear hF hE hG hr
  obtain ⟨z0, hz0⟩ : ∃ z, ((n : Int) == 0) = z := ⟨_, rfl⟩
  obtain ⟨z1, hz1⟩ : ∃ z, decide ((8 : Int) < (n : Int)) = z := ⟨_, rfl⟩
  have HF : Hid (firstNZ [if z0 = true then 10 else 0, if z1 = true then 8 else 0, E, G] = F) := by
    refine Lib.hid ?_
    rw [HE.out]
    have e0 : (if z0 = true then (10 : Int) else 0) = if n = 0 then 10 else 0 := by
      by_cases h : n = 0
      · have : z0 = true := by rw [← hz0, h]; rfl
        rw [if_pos this, if_pos h]
      · have : ¬ z0 = true := by rw [← hz0]; simp; omega
        rw [if_neg this, if_neg h]
    have e1 : (if z1 = true then (8 : Int) else 0) = if 8 < n then 8 else 0 := by
      by_cases h : 8 < n
      · have : z1 = true := by rw [← hz1]; exact decide_eq_true (by omega)
        rw [if_pos this, if_pos h]
      · have : ¬ z1 = true := by rw [← hz1]; simp; omega
        rw [if_neg this, if_neg h]
    rw [e0, e1]
  clear HE
  have CW0 := Lib.hid (fun w => when_any z0 10 w)
  have CW1 := Lib.hid (fun w => when_any z1 8 w)
  obtain ⟨k0, hk0⟩ : ∃ k, (if z0 = true then (10 : Int) else 0) = k := ⟨_, rfl⟩
  obtain ⟨k1, hk1⟩ : ∃ k, (if z1 = true then (8 : Int) else 0) = k := ⟨_, rfl⟩
  rw [hk0] at HF CW0
  rw [hk1] at HF CW1
  clear hk0 hk1
  go_enter Try.func79, Try.ntmps79
  go_wp2
  go_region_held3 (fun w' : World => w'.cell? ⟨w.heap.size, 0, none⟩ = some (.slice A n c) ∧ w'.cell? ⟨w.heap.size, 1, none⟩ = some (.int .i64 b)) ((go_split_ands; simp [go_sem, *])) (first
    | (go_at_call 68; refine (CW0.out _).mono ?_; rintro e w' ⟨rfl, rfl⟩)
    | (go_at_call 68; refine (CW1.out _).mono ?_; rintro e w' ⟨rfl, rfl⟩)
    | (go_at_call 63; refine (from_any _ _ _).mono ?_; rintro e w' ⟨rfl, rfl⟩)
    | (go_at_call 127; refine (atMost_any 1000 (by omega) _).mono ?_; rintro e w' ⟨rfl, rfl⟩)
    | (go_at_call 117; refine (CG.out _ _ _ ?_ ?_).mono ?_; (focus (simp [go_sem])); (focus (simp [go_sem])); rintro e w' ⟨rfl, rfl⟩)
    | (go_at_call 124; refine (CE.out _ _ _ ?_ ?_ ?_).mono ?_; (focus ((repeat (first | exact Below.refl _ _ | refine Below.drew ?_ | refine belowDrewN ?_ _ | refine Below.alloc ?_ (by first | (simp; done) | (simp; omega)) _)))); (focus (simp [go_sem])); (focus (simp [go_sem])); rintro e w' ⟨rfl, rfl⟩)
    | (go_at_call 62; refine (firstError4 HF.out _ _ ?_ ?_ ?_ ?_).mono ?_; (focus (simp [go_sem])); (focus (simp [go_sem])); (focus (simp [go_sem])); (focus (simp [go_sem])); rintro e w' ⟨rfl, rfl⟩))
  all_goals
    go_wp2
    go_ret
    exact ⟨rfl, by (repeat (first | exact Below.refl _ _ | refine Below.drew ?_ | refine belowDrewN ?_ _ | refine Below.alloc ?_ (by first | (simp; done) | (simp; omega)) _))⟩

theorem fsP_bd {cs xs : List Int} (hc : ∀ c ∈ cs, -1000 ≤ c ∧ c ≤ 1000) (hx : ∀ x ∈ xs, -1000000000000 ≤ x ∧ x ≤ 1000000000000) (n : Nat) : ∀ k : Nat, -(1000000000000000 * (k : Int)) ≤ fsP cs xs n k ∧ fsP cs xs n k ≤ 1000000000000000 * (k : Int)
  | 0 => by simp [fsP]
  | k + 1 => by
    have ih := fsP_bd hc hx n k
    have h := mul_bd (getD_bd (by omega) hc k) (getD_bd (by omega) hx (n - k)) (by omega) (by omega)
    show _ ≤ fsP cs xs n k + (if k ≤ n then _ else 0) ∧ fsP cs xs n k + (if k ≤ n then _ else 0) ≤ _
    split <;> omega
theorem fsum_bd {cs xs : List Int} (hl : cs.length ≤ 8) (hc : ∀ c ∈ cs, -1000 ≤ c ∧ c ≤ 1000) (hx : ∀ x ∈ xs, -1000000000000 ≤ x ∧ x ≤ 1000000000000) (n : Nat) : -8000000000000000 ≤ fsum cs xs n ∧ fsum cs xs n ≤ 8000000000000000 := by
  have := fsP_bd hc hx n cs.length
  unfold fsum
  omega
set_option maxRecDepth 100000 in
set_option maxHeartbeats 1000000 in
theorem sumAt_any (A : Option Addr) (n c : Nat) (cs : List Int) (B : Option Addr) (m d : Nat) (xs : List Int) (q : Nat) (w : World) (hr : RdI w A n cs) (hn : n ≤ 8) (hc : ∀ c ∈ cs, -1000 ≤ c ∧ c ≤ 1000) (hx : RdI w B m xs) (hq : q < m) (hm : m ≤ 1000000) (hxs : ∀ x ∈ xs, -1000000000000 ≤ x ∧ x ≤ 1000000000000) :
    Calls Try.prog 83 #[.slice A n c, .slice B m d, .int .i64 (q : Int)] w fun e w' => e = .returned (.int .i64 (fsum cs xs q)) ∧ w = w' := by
  have HR := Lib.hid hr
  have HX := Lib.hid hx
  have HC : Hid (∀ k, -1000 ≤ cs.getD k 0 ∧ cs.getD k 0 ≤ 1000) := fun k => getD_bd (by omega) hc k
  have HXS : Hid (∀ k, -1000000000000 ≤ xs.getD k 0 ∧ xs.getD k 0 ≤ 1000000000000) := fun k => getD_bd (by omega) hxs k
  have HB : Hid (∀ k : Nat, -(1000000000000000 * (k : Int)) ≤ fsP cs xs q k ∧ fsP cs xs q k ≤ 1000000000000000 * (k : Int)) := fsP_bd hc hxs q
  have HS : Hid (∀ k, fsP cs xs q (k + 1) = fsP cs xs q k + (if k ≤ q then cs.getD k 0 * xs.getD (q - k) 0 else 0)) := fun k => rfl
  have HF : Hid (fsP cs xs q n = fsum cs xs q) := by show _ = _; rw [fsum, hr.1]
  have H0 : Hid (fsP cs xs q 0 = 0) := rfl
  obtain ⟨F, hF⟩ : ∃ F, fsum cs xs q = F := ⟨_, rfl⟩
  rw [hF] at HF ⊢
  obtain ⟨P, hP⟩ : ∃ P, fsP cs xs q = P := ⟨_, rfl⟩
  rw [hP] at HF HS HB H0
  clear hF hP hr hx hc hxs
  go_enter Try.func83, Try.ntmps83
  go_wp2
  go_loop [7, 12] (fun s i => ∃ k : Nat, k ≤ n ∧ i = .int .i64 k ∧ s = .int .i64 (P k)) (fun _ i => n - (intOf i).toNat)
  case atStart => exact ⟨0, Nat.zero_le _, rfl, by rw [H0.out]⟩
  case round =>
    obtain ⟨k, hk, rfl, rfl⟩ := hrel
    by_cases hlt : k < n
    · obtain ⟨ad, rfl, _, hca⟩ := HR.out.2 (by omega)
      have hck := hca k hlt
      have hcb := HC.out k
      have hs := HS.out k
      have hb := HB.out k
      clear hca
      obtain ⟨x, hx⟩ : ∃ x, cs.getD k 0 = x := ⟨_, rfl⟩
      rw [hx] at hck hcb hs
      clear hx
      have hkI : (k : Int) < (n : Int) := by omega
      by_cases hq2 : k ≤ q
      · obtain ⟨bd, rfl, _, hcx⟩ := HX.out.2 (by omega)
        have hcy := hcx (q - k) (by omega)
        have hyb := HXS.out (q - k)
        clear hcx
        rw [if_pos hq2] at hs
        obtain ⟨y, hy⟩ : ∃ y, xs.getD (q - k) 0 = y := ⟨_, rfl⟩
        rw [hy] at hcy hyb hs
        obtain ⟨j, hj⟩ : ∃ j, q - k = j := ⟨_, rfl⟩
        rw [hj] at hcy
        have v1 : IntKind.i64.wrap ((q : Int) - (k : Int)) = (j : Int) := by rw [show (q : Int) - (k : Int) = (j : Int) by omega]; exact IntWalk.i64_in _ (by omega)
        have hjm : (j : Int) < (m : Int) := by omega
        have hjn : j < m := by omega
        have hmul := mul_bd hcb hyb (by omega) (by omega)
        obtain ⟨p, hp⟩ : ∃ p, P k = p := ⟨_, rfl⟩
        rw [hp] at hs hb
        have w1 : IntKind.i64.wrap (x * y) = x * y := IntWalk.i64_in _ (by omega)
        have w2 : IntKind.i64.wrap (p + x * y) = p + x * y := IntWalk.i64_in _ (by omega)
        rw [hp]
        have hqI : (k : Int) ≤ (q : Int) := by omega
        have HSS := Lib.hid hs
        have HYD := Lib.hid hy
        have HJD := Lib.hid hj
        clear hs hy hj hp
        go_wp2
        go_round
        case rel => exact ⟨k + 1, by omega, by go_num, by rw [HSS.out]⟩
        case measure => simp [intOf]; omega
      · rw [if_neg hq2, Int.add_zero] at hs
        have hqI : ¬ (k : Int) ≤ (q : Int) := by omega
        have HSS := Lib.hid hs
        clear hs
        go_wp2
        go_round
        case rel => exact ⟨k + 1, by omega, by go_num, by rw [HSS.out]⟩
        case measure => simp [intOf]; omega
    · obtain rfl : n = k := by omega
      have hkI : ¬ (n : Int) < (n : Int) := by omega
      clear hlt
      go_wp2
      go_ret
      exact ⟨by rw [HF.out]; rfl, rfl⟩

end Go.Proofs.Ytepcciodhppbnaa


namespace Go.Proofs.Ytepcciodhppbnaa
open Go.RowKit

theorem bkf2 {W : World} {g : Nat} {t : TypeId} {x y : Value} (h : Bk W g t #[x, y]) : W.cell? ⟨g, 0, none⟩ = some x ∧ W.cell? ⟨g, 1, none⟩ = some y :=
  ⟨by rw [h.cell]; rfl, by rw [h.cell]; rfl⟩
def flsE (cs : List Int) (b : Int) (xs : List Int) : Int := firstNZ [fltE cs b, sigE xs]
def flsL (cs : List Int) (b : Int) (xs : List Int) : List Int := if flsE cs b xs = 0 then filt cs b xs else []
theorem div_bd {n d : Int} {M : Int} (hM : 0 ≤ M) (h : -M ≤ n ∧ n ≤ M) (hd : 0 < d) : -M ≤ n / d ∧ n / d ≤ M := by
  constructor
  · rw [Int.le_ediv_iff_mul_le hd]
    have : (-M) * d ≤ (-M) * 1 := Int.mul_le_mul_of_nonpos_left (by omega) (by omega)
    omega
  · have : n / d < M + 1 := by
      rw [Int.ediv_lt_iff_lt_mul hd]
      have : (M + 1) * 1 ≤ (M + 1) * d := Int.mul_le_mul_of_nonneg_left (by omega) (by omega)
      omega
    omega
set_option maxRecDepth 100000 in
set_option maxHeartbeats 4000000 in
theorem Filtered_any (A : Option Addr) (n c : Nat) (b : Int) (cs : List Int) (B : Option Addr) (m d : Nat) (xs : List Int) (w : World) (hr : RdI w A n cs) (hn : n ≤ 1000000) (hx : RdI w B m xs) (hm : m ≤ 1000000) :
    Calls Try.prog 34 #[.agg #[.slice A n c, .int .i64 b], .slice B m d] w (OwnRes w (flsE cs b xs) (flsL cs b xs)) := by
  have HR := Lib.hid hr
  have HX := Lib.hid hx
  have HXL : Hid (xs.length = m) := hx.1
  have HCN : Hid (cs.length = n) := hr.1
  have CQ : Hid (∀ W, Below w.heap.size w W → Calls Try.prog 79 #[.agg #[.slice A n c, .int .i64 b]] W fun e w' => e = .returned (.int .i64 (fltE cs b)) ∧ Below W.heap.size W w') := fun W hb => CheckFilter_any A n c cs b W (hr.below hb) (by omega)
  have CG : Hid (∀ W, Below w.heap.size w W → Calls Try.prog 71 #[.slice B m d] W fun e w' => e = .returned (.int .i64 (sigE xs)) ∧ Below W.heap.size W w') := fun W hb => checkSignal_any B m d xs W (hx.below hb) (by omega)
  have HE : Hid (firstNZ [fltE cs b, sigE xs] = flsE cs b xs) := rfl
  have HL1 : Hid (flsL cs b xs = if flsE cs b xs = 0 then filt cs b xs else []) := rfl
  have HOK : Hid (flsE cs b xs = 0 → ((1 ≤ cs.length ∧ cs.length ≤ 8) ∧ (∀ c ∈ cs, -1000 ≤ c ∧ c ≤ 1000) ∧ 1 ≤ b ∧ b ≤ 1000) ∧ xs.length ≤ 400 ∧ ∀ x ∈ xs, -32767 ≤ x ∧ x ≤ 32767) := fun h =>
    ⟨fltE_zero (firstNZ_zero h (fltE cs b) (by simp)), sigE_zero (firstNZ_zero h (sigE xs) (by simp))⟩
  obtain ⟨L, hL⟩ : ∃ L, flsL cs b xs = L := ⟨_, rfl⟩
  rw [hL] at HL1 ⊢
  obtain ⟨E, hE⟩ : ∃ E, flsE cs b xs = E := ⟨_, rfl⟩
  rw [hE] at HE HL1 HOK ⊢
  obtain ⟨E1, hE1⟩ : ∃ E, fltE cs b = E := ⟨_, rfl⟩
  obtain ⟨E2, hE2⟩ : ∃ E, sigE xs = E := ⟨_, rfl⟩
  rw [hE1] at HE CQ
  rw [hE2] at HE CG
  clear hL hE hE1 hE2 hr hx
  obtain ⟨i0, hi0, hza, hzb, hzc⟩ := info_parts intInfo'
  have R0 := Lib.hid (OneB.start w 52 #[.slice A n c, .int .i64 b])
  go_enter Try.func34, Try.ntmps34
  obtain ⟨c0, c1⟩ := bkf2 R0.out.k
  go_wp2_with fail
  refine (CQ.out _ R0.out.b).mono ?_
  rintro e w1 ⟨rfl, hb1⟩
  have R1 := Lib.hid (OneB.later hb1 R0.out)
  clear hb1 R0 c0 c1
  go_wp2_with fail
  refine (CG.out _ R1.out.b).mono ?_
  rintro e w2 ⟨rfl, hb2⟩
  have R2 := Lib.hid ((OneB.later hb2 R1.out).alloc (.cells #[.int .i64 E1, .int .i64 E2] 30))
  clear hb2 R1
  go_wp2_with fail
  refine (firstError2 (E1 := E1) (E2 := E2) (F := E) HE.out _ _ ?_ ?_).mono ?_
  · simp [go_sem]
  · simp [go_sem]
  rintro e w' ⟨rfl, rfl⟩
  obtain ⟨W3, hW3⟩ : ∃ W3, w2.alloc (.cells #[.int .i64 E1, .int .i64 E2] 30) = W3 := ⟨_, rfl⟩
  rw [hW3] at R2 ⊢
  clear hW3 HE CQ CG
  by_cases h0 : E = 0
  · subst h0
    obtain ⟨hok, hm4, hxs⟩ := HOK.out rfl
    have HCL : Hid (cs.length ≤ 8) := hok.1.2
    have hL := HL1.out
    rw [if_pos rfl] at hL
    have HST := Lib.hid (fun k (hk : k < m) => filt_take cs b xs k (by have := HXL.out; omega))
    have HFB := Lib.hid (fun k => fsum_bd (cs := cs) (xs := xs) HCL.out hok.2.1 (fun x hx => by have := hxs x hx; omega) k)
    have HLL : Hid ((filt cs b xs).length = m) := by show _ = _; rw [filt_len]; exact HXL.out
    have CSum : Hid (∀ k, k < m → ∀ W, Below W3.heap.size W3 W → Calls Try.prog 83 #[.slice A n c, .slice B m d, .int .i64 (k : Int)] W fun e w' => e = .returned (.int .i64 (fsum cs xs k)) ∧ W = w') := fun k hk W hb =>
      sumAt_any A n c cs B m d xs k W ((HR.out.below R2.out.b).below hb) (by have := HCN.out; omega) hok.2.1 ((HX.out.below R2.out.b).below hb) hk hm (fun x hx => by have := hxs x hx; omega)
    have HSK : Hid (∀ W, Below W3.heap.size W3 W → (fun w' : World => w'.cell? ⟨w.heap.size, 0, none⟩ = some (.slice A n c) ∧ w'.cell? ⟨w.heap.size, 1, none⟩ = some (.int .i64 b)) W) := fun W hb => bkf2 (R2.out.k.later hb)
    have hb0 := hok.2.2
    rw [← hL] at HST HLL
    have HRB := Lib.hid R2.out.b
    clear HOK HL1 hL hok hxs hm4 R2
    go_wp2
    go_loopw [7, 20] (fun p i wr => ∃ k : Nat, k ≤ m ∧ i = .int .i64 k ∧ Hid (wr.ownsRow W3.heap.size 3 1 p k ((L.take k).map (Value.int .i64))) ∧ Hid (Below W3.heap.size W3 wr)) (fun _ i _ => m - (intOf i).toNat)
    case atStart => exact ⟨0, Nat.zero_le _, rfl, Lib.hid (World.ownsRow_nil _ _ _ _), Lib.hid (Below.refl _ _)⟩
    case round =>
      obtain ⟨k, hk, rfl, HI, HB⟩ := hrel
      obtain ⟨A2, cap2, hp, _, _⟩ := rd_of_own HI.out
      subst hp
      by_cases hlt : k < m
      · have hkI : (k : Int) < (m : Int) := by omega
        have HSN := Lib.hid (HST.out k hlt)
        have CS := Lib.hid (CSum.out k hlt)
        have hsb := HFB.out k
        obtain ⟨y, hy⟩ : ∃ y, fsum cs xs k = y := ⟨_, rfl⟩
        rw [hy] at HSN CS hsb
        have CD := Lib.hid (fun w => down_any y b (by omega) (by omega) w)
        obtain ⟨z, hz⟩ : ∃ z, y / b = z := ⟨_, rfl⟩
        rw [hz] at HSN CD
        clear hy hz
        go_wp2
        refine wp_region_held_drew (S := (fun w' : World => w'.cell? ⟨w.heap.size, 0, none⟩ = some (.slice A n c) ∧ w'.cell? ⟨w.heap.size, 1, none⟩ = some (.int .i64 b))) (by kernel_rfl) ?_ ?_
        · exact HSK.out _ HB.out.drew
        intro hHeld
        refine wpAnyH_take (i := 0) (v := ?_) rfl (by kernel_rfl) (by kernel_rfl) (by kernel_rfl) (fun _ _ _ h => h) (Or.inl ⟨by rfl, ?_⟩) (by assumption) ?_
        rotate_left
        · intro w hSw; (try dsimp only at hSw); go_simp; (try (with_reducible rfl))
        try simp only [List.getElem_toArray, List.getElem_cons_succ, List.getElem_cons_zero, Act.put, List.setIfInBounds_toArray, List.set_cons_zero, List.set_cons_succ]
        refine wpAnyH_take (i := 1) (v := ?_) rfl (by kernel_rfl) (by kernel_rfl) (by kernel_rfl) (fun _ _ _ h => h) (Or.inl ⟨by rfl, ?_⟩) (by assumption) ?_
        rotate_left
        · intro w hSw; (try dsimp only at hSw); go_simp; (try (with_reducible rfl))
        try simp only [List.getElem_toArray, List.getElem_cons_succ, List.getElem_cons_zero, Act.put, List.setIfInBounds_toArray, List.set_cons_zero, List.set_cons_succ]
        refine wpAnyH_take (i := 2) (v := ?_) rfl (by kernel_rfl) (by kernel_rfl) (by kernel_rfl) (fun _ _ _ h => h) (Or.inl ⟨by rfl, ?_⟩) (by assumption) ?_
        rotate_left
        · intro w hSw; (try dsimp only at hSw); go_simp; (try (with_reducible rfl))
        try simp only [List.getElem_toArray, List.getElem_cons_succ, List.getElem_cons_zero, Act.put, List.setIfInBounds_toArray, List.set_cons_zero, List.set_cons_succ]
        refine wpAnyH_take (i := 3) (v := ?_) rfl (by kernel_rfl) (by kernel_rfl) (by kernel_rfl) (fun _ _ _ h => h) (Or.inl ⟨by rfl, ?_⟩) (by assumption) ?_
        rotate_left
        · intro w hSw; (try dsimp only at hSw); go_simp; (try (with_reducible rfl))
        try simp only [List.getElem_toArray, List.getElem_cons_succ, List.getElem_cons_zero, Act.put, List.setIfInBounds_toArray, List.set_cons_zero, List.set_cons_succ]
        refine wpAnyH_take (i := 4) (v := ?_) rfl (by kernel_rfl) (by kernel_rfl) (by kernel_rfl) (fun _ _ _ h => h) (Or.inl ⟨by rfl, ?_⟩) (by assumption) ?_
        rotate_left
        · intro w hSw; (try dsimp only at hSw); go_simp; (try (with_reducible rfl))
        try simp only [List.getElem_toArray, List.getElem_cons_succ, List.getElem_cons_zero, Act.put, List.setIfInBounds_toArray, List.set_cons_zero, List.set_cons_succ]
        refine wpAnyH_take (i := 6) (v := ?_) rfl (by kernel_rfl) (by kernel_rfl) (by kernel_rfl) (fun _ _ _ h => h) (Or.inl ⟨by rfl, ?_⟩) (by assumption) ?_
        rotate_left
        · intro w hSw; (try dsimp only at hSw); go_simp; (try (with_reducible rfl))
        try simp only [List.getElem_toArray, List.getElem_cons_succ, List.getElem_cons_zero, Act.put, List.setIfInBounds_toArray, List.set_cons_zero, List.set_cons_succ]
        refine wpAnyH_take (i := 7) (v := ?_) rfl (by kernel_rfl) (by kernel_rfl) (by kernel_rfl) (fun _ _ _ h => h) (Or.inl ⟨by rfl, ?_⟩) (by assumption) ?_
        rotate_left
        · intro w hSw; (try dsimp only at hSw); go_simp; (try (with_reducible rfl))
        try simp only [List.getElem_toArray, List.getElem_cons_succ, List.getElem_cons_zero, Act.put, List.setIfInBounds_toArray, List.set_cons_zero, List.set_cons_succ]
        refine wpAnyH_ready (rs := [5]) (by kernel_rfl) (by simp) ?_
        refine AllReadyH.cons rfl (fun K hK => ?_) AllReadyH.nil
        go_simp
        go_at_call 83
        refine (CS.out _ (HB.out.drew)).mono ?_
        rintro e w' ⟨rfl, rfl⟩
        go_wp2_with fail
        refine hK.out _ _ ?_ (fun hHeld => ?_)
        · clear hK K; exact HSK.out _ (HB.out.drew)
        clear hK K
        try simp only [List.getElem_toArray, List.getElem_cons_succ, List.getElem_cons_zero, Act.put, List.setIfInBounds_toArray, List.set_cons_zero, List.set_cons_succ]
        refine wpAnyH_ready (rs := [8]) (by kernel_rfl) (by simp) ?_
        refine AllReadyH.cons rfl (fun K hK => ?_) AllReadyH.nil
        go_simp
        go_at_call 82
        refine (CD.out _).mono ?_
        rintro e w' ⟨rfl, rfl⟩
        go_wp2_with fail
        refine hK.out _ _ ?_ (fun hHeld => ?_)
        · clear hK K; exact HSK.out _ (HB.out.drew)
        clear hK K
        try simp only [List.getElem_toArray, List.getElem_cons_succ, List.getElem_cons_zero, Act.put, List.setIfInBounds_toArray, List.set_cons_zero, List.set_cons_succ]
        refine wpAnyH_ready (rs := [9]) (by kernel_rfl) (by simp) ?_
        refine AllReadyH.cons rfl (fun K hK => ?_) AllReadyH.nil
        go_simp
        refine hK.out _ _ ?_ (fun hHeld => ?_)
        · clear hK K; exact HSK.out _ ((HB.out.drew).alloc (HB.out.drew).size _)
        clear hK K
        try simp only [List.getElem_toArray, List.getElem_cons_succ, List.getElem_cons_zero, Act.put, List.setIfInBounds_toArray, List.set_cons_zero, List.set_cons_succ]
        refine wpAnyH_ready (rs := [10]) (by kernel_rfl) (by simp) ?_
        refine AllReadyH.cons rfl (fun K hK => ?_) AllReadyH.nil
        refine step_append_at _ rfl (.tmp 23) (.tmp 32) 29 rfl W3.heap.size 3 i0 _ 1 8 Try.underlying29 hi0 hza hzb hzc rfl (by decide) _ k _ rfl ((HI.out.drew).alloc _) ⟨wr.heap.size, 0, none⟩ 1 1 [.int .i64 (z)] rfl rfl (cell_one_new _ _ _) (by simp [Value.oneCell']) (by simp only [maxLen]; omega) (by omega) (by have := (HB.out.drew).size; simp at this ⊢; omega) ?_
        intro v' w4 hown' hgrow _ hat
        obtain ⟨g', cap', rfl⟩ := ownsRow_succ hown'
        have HB4 : Hid (Below W3.heap.size W3 w4) := ((HB.out.drew).alloc (HB.out.drew).size _).grown hgrow (by have := (HB.out.drew).size; simp at this ⊢; omega) (fun z e => ((HI.out.drew).lt z e).1)
        have HO4 : Hid (w4.ownsRow W3.heap.size 3 1 (.slice (some ⟨g', 0, none⟩) (k + 1) cap') (k + 1) ((L.take (k + 1)).map (Value.int .i64))) := by
          refine Lib.hid ?_
          rw [HSN.out, List.map_append]
          exact hown'
        clear hown' hgrow hat
        refine hK.out _ _ ?_ (fun hHeld => ?_)
        · clear hK K; exact HSK.out _ HB4.out
        clear hK K
        try simp only [List.getElem_toArray, List.getElem_cons_succ, List.getElem_cons_zero, Act.put, List.setIfInBounds_toArray, List.set_cons_zero, List.set_cons_succ]
        refine wpAnyH_take (i := 11) (v := ?_) rfl (by kernel_rfl) (by kernel_rfl) (by kernel_rfl) (fun _ _ _ h => h) (Or.inl ⟨by rfl, ?_⟩) (by assumption) ?_
        rotate_left
        · intro w hSw; (try dsimp only at hSw); go_simp; (try (with_reducible rfl))
        try simp only [List.getElem_toArray, List.getElem_cons_succ, List.getElem_cons_zero, Act.put, List.setIfInBounds_toArray, List.set_cons_zero, List.set_cons_succ]
        refine wpAnyH_done (by kernel_rfl) ?_ _
        clear hHeld
        go_wp2
        go_roundw
        case rel => exact ⟨k + 1, by omega, by go_num, HO4, HB4⟩
        case measure => simp [intOf]; omega
      · obtain rfl : m = k := by omega
        have hkI : ¬ (m : Int) < (m : Int) := by omega
        have hfi := HI.out
        rw [List.take_of_length_le (by have := HLL.out; omega)] at hfi
        have HFI := Lib.hid hfi
        clear hfi hlt
        go_wp2
        go_ret2
        exact ⟨⟨_, rfl, by rw [HLL.out]; exact ownMono HFI.out HRB.out.size⟩, HRB.out.trans (HB.out.mono HRB.out.size)⟩
  · have d1 : (E != 0) = true := by rw [bne_iff_ne]; exact h0
    have hL := HL1.out
    rw [if_neg h0] at hL
    subst hL
    clear HOK HL1 h0
    go_wp2
    go_ret2
    exact OwnRes.none_ R2.out.b
set_option maxRecDepth 100000 in
set_option maxHeartbeats 4000000 in
theorem refFilterErr_any (A : Option Addr) (n c : Nat) (b : Int) (cs : List Int) (w : World) (hr : RdI w A n cs) (hn : n ≤ 9223372036854775807) :
    Calls Try.prog 29 #[.agg #[.slice A n c, .int .i64 b]] w fun e w' => e = .returned (.int .i64 (fltE cs b)) ∧ Below w.heap.size w w' := by
  have HE : Hid (fltE cs b = firstNZ [if n = 0 then 10 else 0, if 8 < n then 8 else 0, rngE (-1000) 1000 cs, rngE 1 1000 [b]]) := by show _ = _; unfold fltE; rw [hr.1]
  have R0 := Lib.hid (OneB.start w 52 #[.slice A n c, .int .i64 b])
  have HR := Lib.hid (hr.below R0.out.b)
  have CB := Lib.hid (fun w => within_any b 1 1000 w)
  have HG : Hid (rngE 1 1000 [b] = if fromB 1 1000 [b] = true then 0 else 2) := rfl
  obtain ⟨G, hG⟩ : ∃ G, fromB 1 1000 [b] = G := ⟨_, rfl⟩
  rw [hG] at CB HG
  obtain ⟨F, hF⟩ : ∃ F, fltE cs b = F := ⟨_, rfl⟩
  rw [hF] at HE ⊢
  clear hF hG hr
  go_enter Try.func29, Try.ntmps29
  obtain ⟨W1, hW1⟩ : ∃ W1, w.alloc (.cells #[.slice A n c, .int .i64 b] 52) = W1 := ⟨_, rfl⟩
  rw [hW1] at R0 HR
  obtain ⟨c0, c1⟩ := bkf2 R0.out.k
  by_cases h0 : n = 0
  · have h0b : ((n : Int) == 0) = true := by rw [h0]; rfl
    have hE := HE.out
    rw [if_pos h0] at hE
    clear HE
    go_wp2
    go_ret
    exact ⟨by rw [hE]; rfl, by first | exact R0.out.b | exact below1 _ _⟩
  have h0b : ((n : Int) == 0) = false := by simp; omega
  by_cases h8 : 8 < n
  · have h8I : (8 : Int) < (n : Int) := by omega
    have hE := HE.out
    rw [if_neg h0, if_pos h8] at hE
    clear HE
    go_wp2
    go_ret
    exact ⟨by rw [hE]; rfl, by first | exact R0.out.b | exact below1 _ _⟩
  have h8I : ¬ (8 : Int) < (n : Int) := by omega
  have hE := HE.out
  rw [if_neg h0, if_neg h8] at hE
  have HE2 : Hid (F = firstNZ [rngE (-1000) 1000 cs, rngE 1 1000 [b]]) := hE
  clear HE hE
  go_wp2
  try rw [hW1]
  clear hW1
  go_loop [3] (fun i => ∃ k : Nat, k ≤ n ∧ i = .int .i64 k ∧ Hid (rngE (-1000) 1000 cs = rngE (-1000) 1000 (cs.drop k))) (fun i => n - (intOf i).toNat)
  case atStart => exact ⟨0, Nat.zero_le _, rfl, rfl⟩
  case round =>
    obtain ⟨k, hk, rfl, HF⟩ := hrel
    by_cases hlt : k < n
    · obtain ⟨ad, rfl, _, hc⟩ := HR.out.2 (by omega)
      have hck := hc k hlt
      clear hc
      obtain ⟨x, hx⟩ : ∃ x, cs.getD k 0 = x := ⟨_, rfl⟩
      have hs := rngE_step (-1000) 1000 cs k (by have := HR.out.1; omega)
      rw [hx] at hck hs
      have CX := Lib.hid (fun w => within_any x (-1000) 1000 w)
      have hrx : rngE (-1000) 1000 [x] = if fromB (-1000) 1000 [x] = true then 0 else 2 := rfl
      rw [hrx] at hs
      obtain ⟨y, hy⟩ : ∃ y, fromB (-1000) 1000 [x] = y := ⟨_, rfl⟩
      rw [hy] at hs CX
      have HS := Lib.hid hs; clear hs hx hy hrx
      have hkI : (k : Int) < (n : Int) := by omega
      cases y
      · go_wp2_with fail
        refine (CX.out _).mono ?_
        rintro e w' ⟨rfl, rfl⟩
        go_wp2
        go_ret
        exact ⟨by rw [HE2.out, HF.out, HS.out]; rfl, R0.out.b⟩
      · go_wp2_with fail
        refine (CX.out _).mono ?_
        rintro e w' ⟨rfl, rfl⟩
        go_wp2
        go_round
        case rel => exact ⟨k + 1, by omega, by go_num, by show _ = _; rw [HF.out, HS.out]; rfl⟩
        case measure => simp [intOf]; omega
    · obtain rfl : n = k := by omega
      have hkI : ¬ (n : Int) < (n : Int) := by omega
      have HFF : Hid (F = if G = true then 0 else 2) := by
        show _ = _
        rw [HE2.out, HF.out, List.drop_eq_nil_of_le (by have := HR.out.1; omega), HG.out]
        cases G <;> rfl
      clear hlt HF
      cases G
      · go_wp2_with fail
        refine (CB.out _).mono ?_
        rintro e w' ⟨rfl, rfl⟩
        go_wp2
        go_ret
        exact ⟨by rw [HFF.out]; rfl, R0.out.b⟩
      · go_wp2_with fail
        refine (CB.out _).mono ?_
        rintro e w' ⟨rfl, rfl⟩
        go_wp2
        go_ret
        exact ⟨by rw [HFF.out]; rfl, R0.out.b⟩

end Go.Proofs.Ytepcciodhppbnaa


namespace Go.Proofs.Ytepcciodhppbnaa
open Go.RowKit

end Go.Proofs.Ytepcciodhppbnaa


namespace Go.Proofs.Ytepcciodhppbnaa
open Go.RowKit

/-- A filter that is copied. -/
def CpF (w : World) (n : Nat) (b : Int) (cs : List Int) (e : Ending) (w' : World) : Prop :=
  (∃ A' c', e = .returned (.agg #[.slice A' n c', .int .i64 b]) ∧ RdI w' A' n cs ∧ n ≤ c' ∧ (A' = none → n = 0 ∧ c' = 0)) ∧ Below w.heap.size w w'
theorem ownBelow0 {w w' : World} {b : Nat} {v : Value} {n : Nat} {xs : List Value} (ho : w.ownsRow b 3 1 v n xs) (hb : Below w.heap.size w w') : w'.ownsRow b 3 1 v n xs := ownBelow ho hb
theorem rd_far {w : World} {base n c : Nat} {A : Option Addr} {cs : List Int} (h : w.ownsRow base 3 1 (.slice A n c) n (cs.map (Value.int .i64))) (a : Addr) (u : Value) (ha : a.block < base) : RdI (w.setCell a u) A n cs := by
  obtain ⟨A2, c2, e, _, hr⟩ := rd_of_own (ownFar h a u ha)
  injection e with e1
  subst e1
  exact hr
set_option maxRecDepth 100000 in
set_option maxHeartbeats 4000000 in
theorem copyFilter_any (A : Option Addr) (n c : Nat) (b : Int) (cs : List Int) (w : World) (hA : A = none → n = 0 ∧ c = 0) (hr : RdI w A n cs) (hn : n ≤ 1000000) :
    Calls Try.prog 33 #[.agg #[.slice A n c, .int .i64 b]] w (CpF w n b cs) := by
  have CC : Hid (∀ W, Below w.heap.size w W → Calls Try.prog 23 #[.slice A n c] W (OwnS W cs)) := fun W hb => copyInts_any A n c cs W hA (hr.below hb) hn
  have HCN : Hid (cs.length = n) := hr.1
  have R0 := Lib.hid ((OneB.start w 52 #[.slice A n c, .int .i64 b]).alloc (.cells #[.slice none 0 0, .int .i64 0] 52))
  have K0 : Hid (Bk ((w.alloc (.cells #[.slice A n c, .int .i64 b] 52)).alloc (.cells #[.slice none 0 0, .int .i64 0] 52)) (w.heap.size + 1) 52 #[.slice none 0 0, .int .i64 0]) := by
    have := Bk.new (w.alloc (.cells #[.slice A n c, .int .i64 b] 52)) 52 #[.slice none 0 0, .int .i64 0]
    refine Lib.hid ?_
    simpa using this
  clear hr hA
  go_enter Try.func33, Try.ntmps33
  obtain ⟨d0, d1⟩ := bkf2 R0.out.k
  go_wp2
  go_region_held3 (fun w' : World => w'.cell? ⟨w.heap.size, 0, none⟩ = some (.slice A n c) ∧ w'.cell? ⟨w.heap.size, 1, none⟩ = some (.int .i64 b)) ((go_split_ands; simp [go_sem, *]))
    ((go_at_call 23; refine (CC.out _ R0.out.drew.b).mono ?_; rintro e w3 ⟨⟨v, rfl, hown⟩, hb⟩; have hl := HCN.out; rw [hl] at hown; obtain ⟨A', c', rfl, hc', hr', hN'⟩ := rd_ownN hown; have R3 := OneB.later hb R0.out.drew; have K3 := Bk.later (K0.out.drew) hb; obtain ⟨d0, d1⟩ := bkf2 R3.k; obtain ⟨e0, e1⟩ := bkf2 K3; have f0 := K3.frozen 0; have f1 := K3.frozen 1))
  all_goals
    go_wp2
    refine bodyPost_ret (v := .agg #[.slice A' n c', .int .i64 b]) (by simp [results, Try.results33, go_sem, e0, e1, f0, f1]) rfl ⟨⟨A', c', rfl, ?_, hc', hN'⟩, ?_⟩
    · exact rd_far (ownFar hown _ _ (by simp)) _ _ (by simp)
    · have hbb := R3.b
      go_grown
end Go.Proofs.Ytepcciodhppbnaa

