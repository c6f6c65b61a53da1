import Derived.Test.YtjjflbnopphciacGreatDoorRsaf
import Derived.Test.YtjjflbnopphciacGreatDoorRsae
import Derived.Laws.AppendOwnNone

namespace Go.Proofs.YtjjflbnopphciacGreatDoor
open Go.RowKit

/-! ### filters as mathematics -/
def fsP (cs xs : List Int) (n : Nat) : Nat → Int
  | 0 => 0
  | k + 1 => fsP cs xs n k + (if k ≤ n then cs.getD k 0 * xs.getD (n - k) 0 else 0)
def fsum (cs xs : List Int) (n : Nat) : Int := fsP cs xs n cs.length
def filt (cs : List Int) (b : Int) (xs : List Int) : List Int := (List.range xs.length).map fun n => fsum cs xs n / b
theorem filt_len (cs : List Int) (b : Int) (xs : List Int) : (filt cs b xs).length = xs.length := by simp [filt]
theorem filt_at (cs : List Int) (b : Int) (xs : List Int) (n : Nat) (h : n < xs.length) : (filt cs b xs).getD n 0 = fsum cs xs n / b := by
  simp [filt, h]
theorem filt_take (cs : List Int) (b : Int) (xs : List Int) (k : Nat) (h : k < xs.length) : (filt cs b xs).take (k + 1) = (filt cs b xs).take k ++ [fsum cs xs k / b] := by
  have hl : k < (filt cs b xs).length := by rw [filt_len]; exact h
  rw [List.take_succ_eq_append_getElem hl]
  simp [filt]
theorem fsP_stop (cs xs : List Int) (n : Nat) : ∀ k, n + 1 ≤ k → fsP cs xs n k = fsP cs xs n (n + 1)
  | 0, h => absurd h (by omega)
  | k + 1, h => by
    rcases (by omega : k = n ∨ n + 1 ≤ k) with rfl | h1
    · rfl
    · show fsP cs xs n k + (if k ≤ n then _ else 0) = _
      rw [if_neg (by omega), fsP_stop cs xs n k h1, Int.add_zero]
theorem fsP_over (cs xs : List Int) (n : Nat) : ∀ k, cs.length ≤ k → fsP cs xs n k = fsum cs xs n
  | 0, h => by rw [fsum, (by omega : cs.length = 0)]
  | k + 1, h => by
    rcases (by omega : cs.length = k + 1 ∨ cs.length ≤ k) with h1 | h1
    · rw [fsum, h1]
    · show fsP cs xs n k + (if k ≤ n then _ else 0) = _
      rw [fsP_over cs xs n k h1, List.getD_eq_getElem?_getD (l := cs), List.getElem?_eq_none h1]
      simp
theorem fsP_ends (cs xs : List Int) (n : Nat) (k : Nat) (h : cs.length ≤ k ∨ n < k) : fsP cs xs n k = fsum cs xs n := by
  rcases h with h | h
  · exact fsP_over cs xs n k h
  · rcases (by omega : cs.length ≤ k ∨ k ≤ cs.length) with h1 | h1
    · exact fsP_over cs xs n k h1
    · rw [fsum, fsP_stop cs xs n k (by omega), fsP_stop cs xs n cs.length (by omega)]
/-- What a filter answers, as sums over functions. -/
def dotF : List Int → (Int → Int) → Int → Int
  | [], _, _ => 0
  | c :: l, x, n => c * x n + dotF l x (n - 1)
def seqF (xs : List Int) (i : Int) : Int := if 0 ≤ i then xs.getD i.toNat 0 else 0
theorem seqF_nat (xs : List Int) (i : Nat) : seqF xs i = xs.getD i 0 := by
  unfold seqF
  rw [if_pos (by omega), Int.toNat_natCast]
theorem fsP_dot (cs xs : List Int) (n : Nat) : ∀ k, k ≤ cs.length → fsP cs xs n k + dotF (cs.drop k) (seqF xs) (n - k) = dotF cs (seqF xs) n
  | 0, _ => by simp [fsP]
  | k + 1, h => by
    have ih := fsP_dot cs xs n k (by omega)
    rw [List.drop_eq_getElem_cons (by omega : k < cs.length)] at ih
    rw [← ih]
    have e1 : cs.getD k 0 = cs[k] := by rw [List.getD_eq_getElem?_getD, List.getElem?_eq_getElem (by omega)]; rfl
    have e2 : (if k ≤ n then cs.getD k 0 * xs.getD (n - k) 0 else 0) = cs[k] * seqF xs ((n : Int) - k) := by
      rw [e1]
      by_cases hk : k ≤ n
      · rw [if_pos hk, show (n : Int) - k = ((n - k : Nat) : Int) by omega, seqF_nat]
      · rw [if_neg hk]
        unfold seqF
        rw [if_neg (by omega), Int.mul_zero]
    have e3 : (n : Int) - ((k + 1 : Nat) : Int) = (n : Int) - (k : Int) - 1 := by omega
    show fsP cs xs n k + (if k ≤ n then cs.getD k 0 * xs.getD (n - k) 0 else 0) + _ = _
    rw [e2, e3]
    show _ = fsP cs xs n k + (cs[k] * seqF xs ((n : Int) - k) + dotF (cs.drop (k + 1)) (seqF xs) ((n : Int) - k - 1))
    omega
theorem fsum_dot (cs xs : List Int) (n : Nat) : fsum cs xs n = dotF cs (seqF xs) n := by
  have h := fsP_dot cs xs n cs.length (Nat.le_refl _)
  rw [List.drop_eq_nil_of_le (Nat.le_refl _)] at h
  simpa [dotF, fsum] using h
theorem dotF_congr : ∀ (g : List Int) (x y : Int → Int) (n : Int), (∀ m, m ≤ n → x m = y m) → dotF g x n = dotF g y n
  | [], _, _, _, _ => rfl
  | c :: l, x, y, n, h => by
    show c * x n + dotF l x (n - 1) = c * y n + dotF l y (n - 1)
    rw [h n (Int.le_refl _), dotF_congr l x y (n - 1) (fun m hm => h m (by omega))]
theorem dotF_lin : ∀ (g : List Int) (c : Int) (x y : Int → Int) (n : Int), dotF g (fun m => c * x m + y m) n = c * dotF g x n + dotF g y n
  | [], c, _, _, _ => by simp [dotF]
  | d :: l, c, x, y, n => by
    show d * (c * x n + y n) + dotF l (fun m => c * x m + y m) (n - 1) = c * (d * x n + dotF l x (n - 1)) + (d * y n + dotF l y (n - 1))
    rw [dotF_lin l c x y (n - 1), Int.mul_add, Int.mul_add]
    have : d * (c * x n) = c * (d * x n) := by rw [← Int.mul_assoc, ← Int.mul_assoc, Int.mul_comm d c]
    omega
theorem dotF_shift : ∀ (g : List Int) (y : Int → Int) (n : Int), dotF g (fun m => y (m - 1)) n = dotF g y (n - 1)
  | [], _, _ => rfl
  | d :: l, y, n => by
    show d * y (n - 1) + dotF l (fun m => y (m - 1)) (n - 1) = d * y (n - 1) + dotF l y (n - 1 - 1)
    rw [dotF_shift l y (n - 1)]
theorem dotF_comm : ∀ (f g : List Int) (x : Int → Int) (n : Int), dotF f (dotF g x) n = dotF g (dotF f x) n
  | [], g, x, n => by
    have h : ∀ (g : List Int) (n : Int), dotF g (fun _ => 0) n = 0 := by
      intro g
      induction g with
      | nil => intro n; rfl
      | cons c l ih => intro n; show c * 0 + dotF l (fun _ => 0) (n - 1) = 0; rw [ih]; simp
    show 0 = dotF g (fun _ => 0) n
    rw [h]
  | c :: l, g, x, n => by
    show c * dotF g x n + dotF l (dotF g x) (n - 1) = dotF g (fun m => c * x m + dotF l x (m - 1)) n
    rw [dotF_comm l g x (n - 1), dotF_lin g c x (fun m => dotF l x (m - 1)) n, dotF_shift g (dotF l x) n]
theorem dotF_neg : ∀ (g : List Int) (x : Int → Int) (n : Int), (∀ m, m < 0 → x m = 0) → n < 0 → dotF g x n = 0
  | [], _, _, _, _ => rfl
  | c :: l, x, n, h, hn => by
    show c * x n + dotF l x (n - 1) = 0
    rw [h n hn, dotF_neg l x (n - 1) h (by omega)]
    simp
theorem seqF_neg (xs : List Int) (m : Int) (h : m < 0) : seqF xs m = 0 := by unfold seqF; rw [if_neg (by omega)]
/-- A sum of a function's values times a signal's. -/
def sumF (h x : Int → Int) : Nat → Int → Int
  | 0, _ => 0
  | k + 1, n => h 0 * x n + sumF (fun m => h (m + 1)) x k (n - 1)
theorem sumF_lin : ∀ (k : Nat) (c : Int) (h i x : Int → Int) (n : Int), sumF (fun m => c * h m + i m) x k n = c * sumF h x k n + sumF i x k n
  | 0, c, _, _, _, _ => by simp [sumF]
  | k + 1, c, h, i, x, n => by
    show (c * h 0 + i 0) * x n + sumF (fun m => c * h (m + 1) + i (m + 1)) x k (n - 1) = c * (h 0 * x n + sumF (fun m => h (m + 1)) x k (n - 1)) + (i 0 * x n + sumF (fun m => i (m + 1)) x k (n - 1))
    rw [sumF_lin k c (fun m => h (m + 1)) (fun m => i (m + 1)) x (n - 1), Int.add_mul, Int.mul_add, Int.mul_assoc]
    omega
theorem sumF_zero : ∀ (k : Nat) (x : Int → Int) (n : Int), sumF (fun _ => 0) x k n = 0
  | 0, _, _ => rfl
  | k + 1, x, n => by show 0 * x n + sumF (fun _ => 0) x k (n - 1) = 0; rw [sumF_zero]; simp
theorem sumF_congr : ∀ (k : Nat) (h i x : Int → Int) (n : Int), (∀ m, 0 ≤ m → h m = i m) → sumF h x k n = sumF i x k n
  | 0, _, _, _, _, _ => rfl
  | k + 1, h, i, x, n, e => by
    show h 0 * x n + sumF (fun m => h (m + 1)) x k (n - 1) = i 0 * x n + sumF (fun m => i (m + 1)) x k (n - 1)
    rw [e 0 (Int.le_refl _), sumF_congr k (fun m => h (m + 1)) (fun m => i (m + 1)) x (n - 1) (fun m hm => e (m + 1) (by omega))]
theorem sumF_seq : ∀ (g : List Int) (k : Nat) (x : Int → Int) (n : Int), g.length ≤ k → sumF (seqF g) x k n = dotF g x n
  | [], k, x, n, _ => by
    rw [sumF_congr k (seqF []) (fun _ => 0) x n (fun m _ => by unfold seqF; split <;> simp), sumF_zero]; rfl
  | c :: l, 0, _, _, h => by simp at h
  | c :: l, k + 1, x, n, h => by
    show seqF (c :: l) 0 * x n + sumF (fun m => seqF (c :: l) (m + 1)) x k (n - 1) = c * x n + dotF l x (n - 1)
    rw [← sumF_seq l k x (n - 1) (by simpa using h), sumF_congr k (fun m => seqF (c :: l) (m + 1)) (seqF l) x (n - 1) (fun m hm => by
      unfold seqF
      rw [if_pos (by omega), if_pos hm, show (m + 1).toNat = m.toNat + 1 by omega]
      rfl)]
    rfl
theorem sumF_dot : ∀ (f g : List Int) (k : Nat) (x : Int → Int) (n : Int), f.length + g.length - 1 ≤ k → sumF (dotF f (seqF g)) x k n = dotF f (dotF g x) n
  | [], g, k, x, n, _ => by show sumF (fun _ => 0) x k n = 0; exact sumF_zero k x n
  | c :: l, g, k, x, n, h => by
    have h1 : g.length ≤ k := by simp at h; omega
    show sumF (fun m => c * seqF g m + dotF l (seqF g) (m - 1)) x k n = c * dotF g x n + dotF l (dotF g x) (n - 1)
    rw [sumF_lin k c (seqF g) (fun m => dotF l (seqF g) (m - 1)) x n, sumF_seq g k x n h1]
    congr 1
    cases k with
    | zero =>
      have hg : g = [] := List.eq_nil_of_length_eq_zero (by omega)
      subst hg
      show 0 = dotF l (dotF [] x) (n - 1)
      rw [dotF_comm l [] x (n - 1)]
      rfl
    | succ k =>
      show dotF l (seqF g) (0 - 1) * x n + sumF (fun m => dotF l (seqF g) (m + 1 - 1)) x k (n - 1) = _
      rw [dotF_neg l (seqF g) (0 - 1) (fun m hm => seqF_neg g m hm) (by omega), sumF_congr k (fun m => dotF l (seqF g) (m + 1 - 1)) (dotF l (seqF g)) x (n - 1) (fun m _ => by rw [show m + 1 - 1 = m by omega])]
      rcases Nat.eq_zero_or_pos l.length with h0 | h0
      · have hl : l = [] := List.eq_nil_of_length_eq_zero h0
        subst hl
        show 0 * x n + sumF (fun _ => 0) x k (n - 1) = 0
        rw [sumF_zero]; simp
      · rw [sumF_dot l g k x (n - 1) (by simp at h; omega)]; simp
/-- The product of two filters' polynomials. -/
def conv (cs ds : List Int) : List Int := (List.range (cs.length + ds.length - 1)).map (fsum cs ds)
theorem conv_len (cs ds : List Int) : (conv cs ds).length = cs.length + ds.length - 1 := by simp [conv]
theorem conv_seq (cs ds : List Int) (hc : 0 < cs.length) (m : Int) (hm : 0 ≤ m) : seqF (conv cs ds) m = dotF cs (seqF ds) m := by
  obtain ⟨k, rfl⟩ := Int.eq_ofNat_of_zero_le hm
  rw [seqF_nat]
  by_cases h : k < cs.length + ds.length - 1
  · rw [← fsum_dot]
    simp [conv, h]
  · have h1 : (conv cs ds).getD k 0 = 0 := by
      rw [List.getD_eq_getElem?_getD, List.getElem?_eq_none (by rw [conv_len]; omega)]; rfl
    rw [h1, ← fsum_dot]
    have h2 : ∀ j, j ≤ cs.length → fsP cs ds k j = 0 := by
      intro j
      induction j with
      | zero => intro _; rfl
      | succ j ih =>
        intro hj
        show fsP cs ds k j + (if j ≤ k then cs.getD j 0 * ds.getD (k - j) 0 else 0) = 0
        rw [ih (by omega)]
        split
        · rw [List.getD_eq_getElem?_getD (l := ds), List.getElem?_eq_none (by omega)]; simp
        · rfl
    exact (h2 cs.length (Nat.le_refl _)).symm
/-- Filtering by the product is filtering by one filter after the other. -/
theorem filt_conv (cs ds xs : List Int) (hc : 0 < cs.length) : filt (conv cs ds) 1 xs = filt ds 1 (filt cs 1 xs) := by
  apply List.ext_getElem?
  intro n
  by_cases hn : n < xs.length
  · have e1 : fsum (conv cs ds) xs n = fsum ds (filt cs 1 xs) n := by
      rw [fsum_dot, fsum_dot]
      have h1 : dotF (conv cs ds) (seqF xs) n = sumF (seqF (conv cs ds)) (seqF xs) (conv cs ds).length n := (sumF_seq _ _ _ _ (Nat.le_refl _)).symm
      rw [h1, sumF_congr _ _ (dotF cs (seqF ds)) _ _ (fun m hm => conv_seq cs ds hc m hm), sumF_dot cs ds _ _ _ (by rw [conv_len]; omega), dotF_comm]
      apply dotF_congr
      intro m hm
      rcases (by omega : m < 0 ∨ 0 ≤ m) with h | h
      · rw [dotF_neg cs (seqF xs) m (fun k hk => seqF_neg xs k hk) h, seqF_neg _ m h]
      · obtain ⟨k, rfl⟩ := Int.eq_ofNat_of_zero_le h
        rw [seqF_nat, filt_at _ _ _ _ (by omega), ← fsum_dot, Int.ediv_one]
    simp [filt, hn, e1]
  · rw [List.getElem?_eq_none (by rw [filt_len]; omega), List.getElem?_eq_none (by rw [filt_len, filt_len]; omega)]
/-! ### the greatest output -/
def sgF (c : Int) : Int := if 0 < c then 1 else if c < 0 then -1 else 0
def absS (cs : List Int) : Nat → Int
  | 0 => 0
  | k + 1 => absS cs k + absF (cs.getD k 0)
def wrst (cs : List Int) (a : Int) : List Int := cs.reverse.map fun c => sgF c * a
theorem wrst_len (cs : List Int) (a : Int) : (wrst cs a).length = cs.length := by simp [wrst]
theorem wrst_at (cs : List Int) (a : Int) (j : Nat) (h : j < cs.length) : (wrst cs a).getD (cs.length - 1 - j) 0 = sgF (cs.getD j 0) * a := by
  have h1 : cs.length - 1 - j < cs.length := by omega
  simp only [wrst, List.getD_eq_getElem?_getD, List.getElem?_map, List.getElem?_reverse h1, show cs.length - 1 - (cs.length - 1 - j) = j by omega, List.getElem?_eq_getElem h, Option.map_some, Option.getD_some]
theorem sg_abs (c a : Int) : c * (sgF c * a) = absF c * a := by
  unfold sgF absF
  rcases (by omega : 0 < c ∨ c = 0 ∨ c < 0) with h | h | h
  · rw [if_pos h, if_neg (by omega), Int.one_mul]
  · subst h; simp
  · rw [if_neg (by omega), if_pos h, if_pos h, ← Int.mul_assoc, Int.mul_neg, Int.mul_one]
theorem absS_nonneg (cs : List Int) : ∀ k, 0 ≤ absS cs k
  | 0 => Int.le_refl _
  | k + 1 => by
    have := absS_nonneg cs k
    show 0 ≤ absS cs k + absF (cs.getD k 0)
    unfold absF; split <;> omega
theorem fsP_wrst (cs : List Int) (a : Int) (h : 0 < cs.length) : ∀ k, k ≤ cs.length → fsP cs (wrst cs a) (cs.length - 1) k = absS cs k * a
  | 0, _ => by simp [fsP, absS]
  | k + 1, hk => by
    show fsP cs (wrst cs a) (cs.length - 1) k + (if k ≤ cs.length - 1 then cs.getD k 0 * (wrst cs a).getD (cs.length - 1 - k) 0 else 0) = (absS cs k + absF (cs.getD k 0)) * a
    rw [fsP_wrst cs a h k (by omega), if_pos (by omega), wrst_at cs a k (by omega), sg_abs, Int.add_mul]
theorem absF_mul (c x M : Int) (hx : -M ≤ x ∧ x ≤ M) : -(absF c * M) ≤ c * x ∧ c * x ≤ absF c * M := by
  have hM : 0 ≤ M := by omega
  unfold absF
  split
  · have h1 : (-c) * (-x) ≤ (-c) * M := Int.mul_le_mul_of_nonneg_left (by omega) (by omega)
    have h2 : (-c) * x ≤ (-c) * M := Int.mul_le_mul_of_nonneg_left (by omega) (by omega)
    rw [Int.neg_mul_neg] at h1
    rw [Int.neg_mul] at h2
    omega
  · have h1 : c * (-x) ≤ c * M := Int.mul_le_mul_of_nonneg_left (by omega) (by omega)
    have h2 : c * x ≤ c * M := Int.mul_le_mul_of_nonneg_left (by omega) (by omega)
    rw [Int.mul_neg] at h1
    omega
theorem fsP_le (cs xs : List Int) (M : Int) (hM : 0 ≤ M) (hx : ∀ k, -M ≤ xs.getD k 0 ∧ xs.getD k 0 ≤ M) (n : Nat) : ∀ k, -(absS cs k * M) ≤ fsP cs xs n k ∧ fsP cs xs n k ≤ absS cs k * M
  | 0 => by simp [fsP, absS]
  | k + 1 => by
    have ih := fsP_le cs xs M hM hx n k
    have h1 := absF_mul (cs.getD k 0) _ M (hx (n - k))
    have h2 : 0 ≤ absF (cs.getD k 0) * M := Int.mul_nonneg (by unfold absF; split <;> omega) hM
    show -((absS cs k + absF (cs.getD k 0)) * M) ≤ fsP cs xs n k + (if k ≤ n then cs.getD k 0 * xs.getD (n - k) 0 else 0) ∧ fsP cs xs n k + (if k ≤ n then cs.getD k 0 * xs.getD (n - k) 0 else 0) ≤ (absS cs k + absF (cs.getD k 0)) * M
    rw [Int.add_mul]
    split <;> omega
/-- The floor of a bounded quotient is bounded by the bound, rounded up. -/
theorem ceil_bd {S b p q g v : Int} (hq : 0 < q) (hg : 0 < g) (hS : S = g * p) (hb : b = g * q) (hv : -S ≤ v ∧ v ≤ S) : -(-((-p) / q)) ≤ v / b ∧ v / b ≤ -((-p) / q) := by
  have hb0 : 0 < b := by rw [hb]; exact Int.mul_pos hg hq
  obtain ⟨C, hC⟩ : ∃ C, -((-p) / q) = C := ⟨_, rfl⟩
  have h1 : (-C) * q ≤ -p := by
    have := Int.ediv_mul_le (-p) (show q ≠ 0 by omega)
    rw [show -C = (-p) / q by omega]; exact this
  have h2 : S ≤ C * b := by
    rw [hS, hb]
    have e : C * (g * q) = g * (C * q) := by rw [← Int.mul_assoc, ← Int.mul_assoc, Int.mul_comm C g]
    rw [e]
    rw [Int.neg_mul] at h1
    exact Int.mul_le_mul_of_nonneg_left (by omega) (by omega)
  rw [hC]
  constructor
  · rw [Int.le_ediv_iff_mul_le hb0, Int.neg_mul]; omega
  · have : v / b < C + 1 := by
      rw [Int.ediv_lt_iff_lt_mul hb0, Int.add_mul]; omega
    omega
theorem floor_eq {S b p q g : Int} (hg : 0 < g) (hS : S = g * p) (hb : b = g * q) : S / b = p / q := by
  rw [hS, hb, Int.mul_ediv_mul_of_pos _ _ hg]

end Go.Proofs.YtjjflbnopphciacGreatDoor


namespace Go.Proofs.YtjjflbnopphciacGreatDoor
open Go.RowKit

/-! ### filters: errors and sums -/
def fltE (cs : List Int) (b : Int) : Int := firstNZ [if cs.length = 0 then 10 else 0, if 8 < cs.length then 8 else 0, rngE (-1000) 1000 cs, rngE 1 1000 [b]]
theorem rngE_all {lo hi : Int} {xs : List Int} (h : rngE lo hi xs = 0) : ∀ x ∈ xs, lo ≤ x ∧ x ≤ hi := by
  unfold rngE at h
  by_cases h2 : fromB lo hi xs = true
  · exact fromB_all h2
  · rw [if_neg h2] at h; cases h
theorem rngE_ofall {lo hi : Int} {xs : List Int} (h : ∀ x ∈ xs, lo ≤ x ∧ x ≤ hi) : rngE lo hi xs = 0 := by
  unfold rngE
  rw [if_pos]
  unfold fromB
  rw [List.all_eq_true]
  intro x hx
  have := h x hx
  simp; omega
theorem fltE_zero {cs : List Int} {b : Int} (h : fltE cs b = 0) : (1 ≤ cs.length ∧ cs.length ≤ 8) ∧ (∀ c ∈ cs, -1000 ≤ c ∧ c ≤ 1000) ∧ 1 ≤ b ∧ b ≤ 1000 := by
  have h1 := firstNZ_zero h (if cs.length = 0 then 10 else 0) (by simp)
  have h2 := firstNZ_zero h (if 8 < cs.length then 8 else 0) (by simp)
  have h3 := firstNZ_zero h (rngE (-1000) 1000 cs) (by simp)
  have h4 := firstNZ_zero h (rngE 1 1000 [b]) (by simp)
  refine ⟨⟨?_, ?_⟩, rngE_all h3, rngE_zero h4⟩
  · rcases Nat.eq_zero_or_pos cs.length with h0 | h0
    · rw [if_pos h0] at h1; cases h1
    · omega
  · rcases Nat.lt_or_ge 8 cs.length with h0 | h0
    · rw [if_pos h0] at h2; cases h2
    · omega
theorem fltE_of {cs : List Int} {b : Int} (h : (1 ≤ cs.length ∧ cs.length ≤ 8) ∧ (∀ c ∈ cs, -1000 ≤ c ∧ c ≤ 1000) ∧ 1 ≤ b ∧ b ≤ 1000) : fltE cs b = 0 := by
  unfold fltE
  rw [if_neg (by omega), if_neg (by omega), rngE_ofall h.2.1, rngE_of h.2.2]
  rfl
theorem below4 (w : World) (o p q r : Obj) : Below w.heap.size w ((((w.alloc o).alloc p).alloc q).alloc r) := (below3 w o p q).alloc (by simp; omega) _
set_option maxRecDepth 100000 in
set_option maxHeartbeats 4000000 in
theorem CheckFilter_any (A : Option Addr) (n c : Nat) (cs : List Int) (b : Int) (w : World) (hr : RdI w A n cs) (hn : n ≤ 9223372036854775806) :
    Calls Tryz.prog 36 #[.agg #[.slice A n c, .int .i64 b]] w fun e w' => e = .returned (.int .i64 (fltE cs b)) ∧ Below w.heap.size w w' := by
  have CE : Hid (∀ W a d, Below w.heap.size w W → W.cell? a = some (.int .i64 (-1000)) → W.cell? d = some (.int .i64 1000) → Calls Tryz.prog 71 #[.slice A n c, .func (.func 81) #[] #[.pointer (some a), .pointer (some d)]] W fun e w' => e = .returned (.int .i64 (rngE (-1000) 1000 cs)) ∧ W = w') := fun W a d hb h1 h2 => checkEach_any A n c cs (-1000) 1000 a d W (hr.below hb) hn h1 h2
  have HE : Hid (fltE cs b = firstNZ [if n = 0 then 10 else 0, if 8 < n then 8 else 0, rngE (-1000) 1000 cs, rngE 1 1000 [b]]) := by show _ = _; unfold fltE; rw [hr.1]
  obtain ⟨F, hF⟩ : ∃ F, fltE cs b = F := ⟨_, rfl⟩
  rw [hF] at HE ⊢
  obtain ⟨E, hE⟩ : ∃ E, rngE (-1000) 1000 cs = E := ⟨_, rfl⟩
  rw [hE] at CE HE
  obtain ⟨G, hG⟩ : ∃ G, rngE 1 1000 [b] = G := ⟨_, rfl⟩
  rw [hG] at HE
  have CG := Lib.hid (fun a d W (ha : W.cell? a = some (.int .i64 1)) (hb : W.cell? d = some (.int .i64 1000)) => from1_any b 1 1000 a d W ha hb)
  rw [hG] at CG
  clear hF hE hG hr
  obtain ⟨z0, hz0⟩ : ∃ z, ((n : Int) == 0) = z := ⟨_, rfl⟩
  obtain ⟨z1, hz1⟩ : ∃ z, decide ((8 : Int) < (n : Int)) = z := ⟨_, rfl⟩
  have HF : Hid (firstNZ [if z0 = true then 10 else 0, if z1 = true then 8 else 0, E, G] = F) := by
    refine Lib.hid ?_
    rw [HE.out]
    have e0 : (if z0 = true then (10 : Int) else 0) = if n = 0 then 10 else 0 := by
      by_cases h : n = 0
      · have : z0 = true := by rw [← hz0, h]; rfl
        rw [if_pos this, if_pos h]
      · have : ¬ z0 = true := by rw [← hz0]; simp; omega
        rw [if_neg this, if_neg h]
    have e1 : (if z1 = true then (8 : Int) else 0) = if 8 < n then 8 else 0 := by
      by_cases h : 8 < n
      · have : z1 = true := by rw [← hz1]; exact decide_eq_true (by omega)
        rw [if_pos this, if_pos h]
      · have : ¬ z1 = true := by rw [← hz1]; simp; omega
        rw [if_neg this, if_neg h]
    rw [e0, e1]
  clear HE
  have CW0 := Lib.hid (fun w => when_any z0 10 w)
  have CW1 := Lib.hid (fun w => when_any z1 8 w)
  obtain ⟨k0, hk0⟩ : ∃ k, (if z0 = true then (10 : Int) else 0) = k := ⟨_, rfl⟩
  obtain ⟨k1, hk1⟩ : ∃ k, (if z1 = true then (8 : Int) else 0) = k := ⟨_, rfl⟩
  rw [hk0] at HF CW0
  rw [hk1] at HF CW1
  clear hk0 hk1
  go_enter Tryz.func36, Tryz.ntmps36
  go_wp2
  go_region_held3 (fun w' : World => w'.cell? ⟨w.heap.size, 0, none⟩ = some (.slice A n c) ∧ w'.cell? ⟨w.heap.size, 1, none⟩ = some (.int .i64 b)) ((go_split_ands; simp [go_sem, *])) (first
    | (go_at_call 65; refine (CW0.out _).mono ?_; rintro e w' ⟨rfl, rfl⟩)
    | (go_at_call 65; refine (CW1.out _).mono ?_; rintro e w' ⟨rfl, rfl⟩)
    | (go_at_call 49; refine (from_any _ _ _).mono ?_; rintro e w' ⟨rfl, rfl⟩)
    | (go_at_call 72; refine (atMost_any 1000 (by omega) _).mono ?_; rintro e w' ⟨rfl, rfl⟩)
    | (go_at_call 81; refine (CG.out _ _ _ ?_ ?_).mono ?_; (focus (simp [go_sem])); (focus (simp [go_sem])); rintro e w' ⟨rfl, rfl⟩)
    | (go_at_call 71; refine (CE.out _ _ _ ?_ ?_ ?_).mono ?_; (focus ((repeat (first | exact Below.refl _ _ | refine Below.drew ?_ | refine belowDrewN ?_ _ | refine Below.alloc ?_ (by first | (simp; done) | (simp; omega)) _)))); (focus (simp [go_sem])); (focus (simp [go_sem])); rintro e w' ⟨rfl, rfl⟩)
    | (go_at_call 33; refine (firstError4 HF.out _ _ ?_ ?_ ?_ ?_).mono ?_; (focus (simp [go_sem])); (focus (simp [go_sem])); (focus (simp [go_sem])); (focus (simp [go_sem])); rintro e w' ⟨rfl, rfl⟩))
  all_goals
    go_wp2
    go_ret
    exact ⟨rfl, by (repeat (first | exact Below.refl _ _ | refine Below.drew ?_ | refine belowDrewN ?_ _ | refine Below.alloc ?_ (by first | (simp; done) | (simp; omega)) _))⟩

theorem fsP_bd {cs xs : List Int} (hc : ∀ c ∈ cs, -1000 ≤ c ∧ c ≤ 1000) (hx : ∀ x ∈ xs, -1000000000000 ≤ x ∧ x ≤ 1000000000000) (n : Nat) : ∀ k : Nat, -(1000000000000000 * (k : Int)) ≤ fsP cs xs n k ∧ fsP cs xs n k ≤ 1000000000000000 * (k : Int)
  | 0 => by simp [fsP]
  | k + 1 => by
    have ih := fsP_bd hc hx n k
    have h := mul_bd (getD_bd (by omega) hc k) (getD_bd (by omega) hx (n - k)) (by omega) (by omega)
    show _ ≤ fsP cs xs n k + (if k ≤ n then _ else 0) ∧ fsP cs xs n k + (if k ≤ n then _ else 0) ≤ _
    split <;> omega
theorem fsum_bd {cs xs : List Int} (hl : cs.length ≤ 8) (hc : ∀ c ∈ cs, -1000 ≤ c ∧ c ≤ 1000) (hx : ∀ x ∈ xs, -1000000000000 ≤ x ∧ x ≤ 1000000000000) (n : Nat) : -8000000000000000 ≤ fsum cs xs n ∧ fsum cs xs n ≤ 8000000000000000 := by
  have := fsP_bd hc hx n cs.length
  unfold fsum
  omega
end Go.Proofs.YtjjflbnopphciacGreatDoor


namespace Go.Proofs.YtjjflbnopphciacGreatDoor
open Go.RowKit

theorem bkf2 {W : World} {g : Nat} {t : TypeId} {x y : Value} (h : Bk W g t #[x, y]) : W.cell? ⟨g, 0, none⟩ = some x ∧ W.cell? ⟨g, 1, none⟩ = some y :=
  ⟨by rw [h.cell]; rfl, by rw [h.cell]; rfl⟩
def flsE (cs : List Int) (b : Int) (xs : List Int) : Int := firstNZ [fltE cs b, sigE xs]
def flsL (cs : List Int) (b : Int) (xs : List Int) : List Int := if flsE cs b xs = 0 then filt cs b xs else []
theorem div_bd {n d : Int} {M : Int} (hM : 0 ≤ M) (h : -M ≤ n ∧ n ≤ M) (hd : 0 < d) : -M ≤ n / d ∧ n / d ≤ M := by
  constructor
  · rw [Int.le_ediv_iff_mul_le hd]
    have : (-M) * d ≤ (-M) * 1 := Int.mul_le_mul_of_nonpos_left (by omega) (by omega)
    omega
  · have : n / d < M + 1 := by
      rw [Int.ediv_lt_iff_lt_mul hd]
      have : (M + 1) * 1 ≤ (M + 1) * d := Int.mul_le_mul_of_nonneg_left (by omega) (by omega)
      omega
    omega
set_option maxRecDepth 100000 in
set_option maxHeartbeats 4000000 in
theorem refFilterErr_any (A : Option Addr) (n c : Nat) (b : Int) (cs : List Int) (w : World) (hr : RdI w A n cs) (hn : n ≤ 9223372036854775807) :
    Calls Tryz.prog 20 #[.agg #[.slice A n c, .int .i64 b]] w fun e w' => e = .returned (.int .i64 (fltE cs b)) ∧ Below w.heap.size w w' := by
  have HE : Hid (fltE cs b = firstNZ [if n = 0 then 10 else 0, if 8 < n then 8 else 0, rngE (-1000) 1000 cs, rngE 1 1000 [b]]) := by show _ = _; unfold fltE; rw [hr.1]
  have R0 := Lib.hid (OneB.start w 29 #[.slice A n c, .int .i64 b])
  have HR := Lib.hid (hr.below R0.out.b)
  have CB := Lib.hid (fun w => within_any b 1 1000 w)
  have HG : Hid (rngE 1 1000 [b] = if fromB 1 1000 [b] = true then 0 else 2) := rfl
  obtain ⟨G, hG⟩ : ∃ G, fromB 1 1000 [b] = G := ⟨_, rfl⟩
  rw [hG] at CB HG
  obtain ⟨F, hF⟩ : ∃ F, fltE cs b = F := ⟨_, rfl⟩
  rw [hF] at HE ⊢
  clear hF hG hr
  go_enter Tryz.func20, Tryz.ntmps20
  obtain ⟨W1, hW1⟩ : ∃ W1, w.alloc (.cells #[.slice A n c, .int .i64 b] 29) = W1 := ⟨_, rfl⟩
  rw [hW1] at R0 HR
  obtain ⟨c0, c1⟩ := bkf2 R0.out.k
  by_cases h0 : n = 0
  · have h0b : ((n : Int) == 0) = true := by rw [h0]; rfl
    have hE := HE.out
    rw [if_pos h0] at hE
    clear HE
    go_wp2
    go_ret
    exact ⟨by rw [hE]; rfl, by first | exact R0.out.b | exact below1 _ _⟩
  have h0b : ((n : Int) == 0) = false := by simp; omega
  by_cases h8 : 8 < n
  · have h8I : (8 : Int) < (n : Int) := by omega
    have hE := HE.out
    rw [if_neg h0, if_pos h8] at hE
    clear HE
    go_wp2
    go_ret
    exact ⟨by rw [hE]; rfl, by first | exact R0.out.b | exact below1 _ _⟩
  have h8I : ¬ (8 : Int) < (n : Int) := by omega
  have hE := HE.out
  rw [if_neg h0, if_neg h8] at hE
  have HE2 : Hid (F = firstNZ [rngE (-1000) 1000 cs, rngE 1 1000 [b]]) := hE
  clear HE hE
  go_wp2
  try rw [hW1]
  clear hW1
  go_loop [3] (fun i => ∃ k : Nat, k ≤ n ∧ i = .int .i64 k ∧ Hid (rngE (-1000) 1000 cs = rngE (-1000) 1000 (cs.drop k))) (fun i => n - (intOf i).toNat)
  case atStart => exact ⟨0, Nat.zero_le _, rfl, rfl⟩
  case round =>
    obtain ⟨k, hk, rfl, HF⟩ := hrel
    by_cases hlt : k < n
    · obtain ⟨ad, rfl, _, hc⟩ := HR.out.2 (by omega)
      have hck := hc k hlt
      clear hc
      obtain ⟨x, hx⟩ : ∃ x, cs.getD k 0 = x := ⟨_, rfl⟩
      have hs := rngE_step (-1000) 1000 cs k (by have := HR.out.1; omega)
      rw [hx] at hck hs
      have CX := Lib.hid (fun w => within_any x (-1000) 1000 w)
      have hrx : rngE (-1000) 1000 [x] = if fromB (-1000) 1000 [x] = true then 0 else 2 := rfl
      rw [hrx] at hs
      obtain ⟨y, hy⟩ : ∃ y, fromB (-1000) 1000 [x] = y := ⟨_, rfl⟩
      rw [hy] at hs CX
      have HS := Lib.hid hs; clear hs hx hy hrx
      have hkI : (k : Int) < (n : Int) := by omega
      cases y
      · go_wp2_with fail
        refine (CX.out _).mono ?_
        rintro e w' ⟨rfl, rfl⟩
        go_wp2
        go_ret
        exact ⟨by rw [HE2.out, HF.out, HS.out]; rfl, R0.out.b⟩
      · go_wp2_with fail
        refine (CX.out _).mono ?_
        rintro e w' ⟨rfl, rfl⟩
        go_wp2
        go_round
        case rel => exact ⟨k + 1, by omega, by go_num, by show _ = _; rw [HF.out, HS.out]; rfl⟩
        case measure => simp [intOf]; omega
    · obtain rfl : n = k := by omega
      have hkI : ¬ (n : Int) < (n : Int) := by omega
      have HFF : Hid (F = if G = true then 0 else 2) := by
        show _ = _
        rw [HE2.out, HF.out, List.drop_eq_nil_of_le (by have := HR.out.1; omega), HG.out]
        cases G <;> rfl
      clear hlt HF
      cases G
      · go_wp2_with fail
        refine (CB.out _).mono ?_
        rintro e w' ⟨rfl, rfl⟩
        go_wp2
        go_ret
        exact ⟨by rw [HFF.out]; rfl, R0.out.b⟩
      · go_wp2_with fail
        refine (CB.out _).mono ?_
        rintro e w' ⟨rfl, rfl⟩
        go_wp2
        go_ret
        exact ⟨by rw [HFF.out]; rfl, R0.out.b⟩

end Go.Proofs.YtjjflbnopphciacGreatDoor


namespace Go.Proofs.YtjjflbnopphciacGreatDoor
open Go.RowKit

end Go.Proofs.YtjjflbnopphciacGreatDoor


namespace Go.Proofs.YtjjflbnopphciacGreatDoor
open Go.RowKit

/-- A filter that is copied. -/
def CpF (w : World) (n : Nat) (b : Int) (cs : List Int) (e : Ending) (w' : World) : Prop :=
  (∃ A' c', e = .returned (.agg #[.slice A' n c', .int .i64 b]) ∧ RdI w' A' n cs ∧ n ≤ c' ∧ (A' = none → n = 0 ∧ c' = 0)) ∧ Below w.heap.size w w'
theorem ownBelow0 {w w' : World} {b : Nat} {v : Value} {n : Nat} {xs : List Value} (ho : w.ownsRow b 3 1 v n xs) (hb : Below w.heap.size w w') : w'.ownsRow b 3 1 v n xs := ownBelow ho hb
theorem rd_far {w : World} {base n c : Nat} {A : Option Addr} {cs : List Int} (h : w.ownsRow base 3 1 (.slice A n c) n (cs.map (Value.int .i64))) (a : Addr) (u : Value) (ha : a.block < base) : RdI (w.setCell a u) A n cs := by
  obtain ⟨A2, c2, e, _, hr⟩ := rd_of_own (ownFar h a u ha)
  injection e with e1
  subst e1
  exact hr
set_option maxRecDepth 100000 in
set_option maxHeartbeats 4000000 in
theorem copyFilter_any (A : Option Addr) (n c : Nat) (b : Int) (cs : List Int) (w : World) (hA : A = none → n = 0 ∧ c = 0) (hr : RdI w A n cs) (hn : n ≤ 1000000) :
    Calls Tryz.prog 10 #[.agg #[.slice A n c, .int .i64 b]] w (CpF w n b cs) := by
  have CC : Hid (∀ W, Below w.heap.size w W → Calls Tryz.prog 31 #[.slice A n c] W (OwnS W cs)) := fun W hb => copyInts_any A n c cs W hA (hr.below hb) hn
  have HCN : Hid (cs.length = n) := hr.1
  have R0 := Lib.hid ((OneB.start w 29 #[.slice A n c, .int .i64 b]).alloc (.cells #[.slice none 0 0, .int .i64 0] 29))
  have K0 : Hid (Bk ((w.alloc (.cells #[.slice A n c, .int .i64 b] 29)).alloc (.cells #[.slice none 0 0, .int .i64 0] 29)) (w.heap.size + 1) 29 #[.slice none 0 0, .int .i64 0]) := by
    have := Bk.new (w.alloc (.cells #[.slice A n c, .int .i64 b] 29)) 29 #[.slice none 0 0, .int .i64 0]
    refine Lib.hid ?_
    simpa using this
  clear hr hA
  go_enter Tryz.func10, Tryz.ntmps10
  obtain ⟨d0, d1⟩ := bkf2 R0.out.k
  go_wp2
  go_region_held3 (fun w' : World => w'.cell? ⟨w.heap.size, 0, none⟩ = some (.slice A n c) ∧ w'.cell? ⟨w.heap.size, 1, none⟩ = some (.int .i64 b)) ((go_split_ands; simp [go_sem, *]))
    ((go_at_call 31; refine (CC.out _ R0.out.drew.b).mono ?_; rintro e w3 ⟨⟨v, rfl, hown⟩, hb⟩; have hl := HCN.out; rw [hl] at hown; obtain ⟨A', c', rfl, hc', hr', hN'⟩ := rd_ownN hown; have R3 := OneB.later hb R0.out.drew; have K3 := Bk.later (K0.out.drew) hb; obtain ⟨d0, d1⟩ := bkf2 R3.k; obtain ⟨e0, e1⟩ := bkf2 K3; have f0 := K3.frozen 0; have f1 := K3.frozen 1))
  all_goals
    go_wp2
    refine bodyPost_ret (v := .agg #[.slice A' n c', .int .i64 b]) (by simp [results, Tryz.results10, go_sem, e0, e1, f0, f1]) rfl ⟨⟨A', c', rfl, ?_, hc', hN'⟩, ?_⟩
    · exact rd_far (ownFar hown _ _ (by simp)) _ _ (by simp)
    · have hbb := R3.b
      go_grown
set_option maxRecDepth 100000 in
set_option maxHeartbeats 4000000 in
theorem taps_any (A : Option Addr) (n c : Nat) (b : Int) (w : World) :
    Calls Tryz.prog 6 #[.agg #[.slice A n c, .int .i64 b]] w fun e w' => e = .returned (.bool (decide (n ≤ 10))) ∧ Below w.heap.size w w' := by
  have e1 : decide ((n : Int) ≤ 10) = decide (n ≤ 10) := decide_eq_decide.2 (by omega)
  have HE := Lib.hid e1
  clear e1
  go_enter Tryz.func6, Tryz.ntmps6
  go_wp2
  go_ret
  exact ⟨retB HE.out, below1 _ _⟩

end Go.Proofs.YtjjflbnopphciacGreatDoor

namespace Go.Proofs.YtjjflbnopphciacGreatDoor
open Go.RowKit

/-- The signed numbers of words. -/
def numsD (d : Nat) : List (List UInt8) → Option (List Int)
  | [] => some []
  | p :: ps => match numS p d with
    | some k => (numsD d ps).map (k :: ·)
    | none => none
theorem numsD_bd (d : Nat) : ∀ (ps : List (List UInt8)) (l : List Int), numsD d ps = some l → l.length = ps.length ∧ ∀ x ∈ l, -(10 ^ d : Nat) < x ∧ x < (10 ^ d : Nat) := by
  intro ps
  induction ps with
  | nil => intro l h; simp [numsD] at h; subst h; simp
  | cons p ps ih =>
    intro l h
    rw [numsD] at h
    cases hk : numS p d with
    | none => rw [hk] at h; cases h
    | some k =>
      rw [hk] at h
      cases hr : numsD d ps with
      | none => rw [hr] at h; cases h
      | some r =>
        rw [hr] at h
        have hl : l = k :: r := (Option.some.inj h).symm
        subst hl
        obtain ⟨h1, h2⟩ := ih r hr
        refine ⟨by simp [h1], fun x hx => ?_⟩
        rcases List.mem_cons.1 hx with rfl | hx
        · exact numS_bd hk
        · exact h2 x hx
theorem numsD_itoa (d : Nat) (hd : 1 ≤ d) : ∀ l : List Int, (∀ x ∈ l, -(10 ^ d : Nat) < x ∧ x < (10 ^ d : Nat)) → numsD d (l.map Lib.itoa) = some l := by
  intro l
  induction l with
  | nil => intro _; rfl
  | cons x l ih =>
    intro h
    rw [List.map_cons, numsD, numS_intD d hd x (h x (by simp)), ih fun y hy => h y (by simp [hy])]
    rfl
theorem numsD_bad (d : Nat) : ∀ (ps : List (List UInt8)) (j : Nat) (p : List UInt8), ps[j]? = some p → numS p d = none → numsD d ps = none := by
  intro ps
  induction ps with
  | nil => intro j p h; simp at h
  | cons q ps ih =>
    intro j p h hn
    rw [numsD]
    cases j with
    | zero =>
      have : q = p := by simpa using h
      subst this
      rw [hn]
    | succ j =>
      cases hk : numS q d with
      | none => rfl
      | some k => rw [ih j p (by simpa using h) hn]; rfl
theorem numsD_snoc (d : Nat) (ps : List (List UInt8)) (p : List UInt8) (k : Int) (hk : numS p d = some k) : ∀ l, numsD d ps = some l → numsD d (ps ++ [p]) = some (l ++ [k]) := by
  induction ps with
  | nil => intro l hl; simp [numsD] at hl; subst hl; simp [numsD, hk]
  | cons q t ih =>
    intro l hl
    rw [numsD] at hl
    rw [List.cons_append, numsD]
    cases hq : numS q d with
    | none => rw [hq] at hl; cases hl
    | some a =>
      rw [hq] at hl
      cases hr : numsD d t with
      | none => rw [hr] at hl; cases hl
      | some r =>
        rw [hr] at hl
        have : l = a :: r := (Option.some.inj hl).symm
        subst this
        rw [ih r hr]
        rfl
theorem numsD_take (d : Nat) (ps : List (List UInt8)) (j : Nat) (p : List UInt8) (l : List Int) (k : Int) (h : ps[j]? = some p) (hl : numsD d (ps.take j) = some l) (hk : numS p d = some k) : numsD d (ps.take (j + 1)) = some (l ++ [k]) := by
  have e : ps.take (j + 1) = ps.take j ++ [p] := by rw [List.take_add_one, h]; rfl
  rw [e]
  exact numsD_snoc d _ _ _ hk _ hl
/-- The filter of words: the coefficients and the denominator. -/
def fltO : List (List UInt8) → Option (List Int × Int)
  | [] => none
  | p :: r => match numU p 4 with
    | some den => (numsD 4 r).map fun cs => (cs, den)
    | none => none
/-- What a filter's string says: the filter and the error. -/
def fltR : Option (List Int × Int) → (List Int × Int) × Int
  | none => (([], 0), 7)
  | some (cs, den) => if fltE cs den = 0 then ((cs, den), 0) else (([], 0), fltE cs den)
theorem fltO_none {p : List UInt8} (h : numU p 4 = none) (r : List (List UInt8)) : fltO (p :: r) = none := by simp only [fltO, h]
theorem fltO_some {p : List UInt8} {d : Int} (h : numU p 4 = some d) (r : List (List UInt8)) : fltO (p :: r) = (numsD 4 r).map fun cs => (cs, d) := by simp only [fltO, h]
def fltS (s : ByteArray) : (List Int × Int) × Int := fltR (fltO (pcs 32 s.data.toList))

theorem pcs_sum (c : UInt8) (l : List UInt8) : ∀ p ∈ pcs c l, p.length ≤ l.length := by
  induction l with
  | nil => intro p hp; simp [pcs] at hp; simp [hp]
  | cons b t ih =>
    intro p hp
    unfold pcs at hp
    split at hp
    · rcases List.mem_cons.1 hp with rfl | h
      · simp
      · have := ih p h; simp; omega
    · cases ht : pcs c t with
      | nil => rw [ht] at hp; simp at hp; subst hp; simp
      | cons q qs =>
        rw [ht] at hp ih
        rcases List.mem_cons.1 hp with rfl | h
        · have := ih q (by simp); simp; omega
        · have := ih p (List.mem_cons_of_mem _ h); simp; omega
theorem strElem : Tryz.prog.elem 76 = 9 := by kernel_rfl
theorem strsUnder' : Tryz.prog.underlying 76 = some (.slice (Tryz.prog.elem 76)) := by kernel_rfl
theorem sizeOfStr (W : World) : (sizeOf 9).run Tryz.prog W = .ok 1 W := by kernel_rfl
/-- All words but the first one. -/
theorem tail_run (g q : Nat) : ∃ c1 : Addr, (∀ W, (Instr.slice 76 (.slice (some ⟨g, 0, none⟩) (q + 1) (q + 1)) (some (.int .i64 1)) none none).run Tryz.prog W = .ok (.slice (some c1) q q) W) ∧ c1.block = g ∧ ∀ k, k < q → c1.add k = ⟨g, 1 + k, none⟩ := by
  have h := fun W => run_slice_l (P := Tryz.prog) (w := W) 76 (some ⟨g, 0, none⟩) (q + 1) (q + 1) strsUnder' .i64 1 (by omega) (by omega)
  by_cases h0 : q = 0
  · subst h0
    refine ⟨⟨g, 0, none⟩, fun W => ?_, rfl, fun k hk => by omega⟩
    rw [h W, strElem, sizeOfStr]
    rfl
  · refine ⟨⟨g, 1, none⟩, fun W => ?_, rfl, fun k hk => ?_⟩
    · rw [h W, strElem, sizeOfStr]
      show Result.ok (Value.slice (if q + 1 = 1 then _ else _) (q + 1 - 1) (q + 1 - 1)) W = _
      rw [if_neg (by omega), Nat.add_sub_cancel]
      rfl
    · unfold Addr.add
      split
      · rename_i e; subst e; rfl
      · rfl

theorem ownFarS {w : World} {base t k : Nat} {x : Value} {xs : List Value} (ho : w.ownsRow base t 1 x k xs) (a : Addr) (u : Value) (ha : a.block < base) : (w.setCell a u).ownsRow base t 1 x k xs := by
  refine ⟨ho.1, ?_⟩
  rcases ho.2 with h0 | ⟨g, cap, cur, h1, h2, h3, h4⟩
  · exact .inl h0
  · exact .inr ⟨g, cap, cur, h1, h2, (heap_setCell_other w a g u (by omega)).trans h3, h4⟩
abbrev fRow (p : Value) (b : Int) : Array Value := #[p, .int .i64 b]
/-- What filterIn answers. -/
def FltIn (w : World) (o : Option (List Int × Int)) (e : Ending) (w' : World) : Prop :=
  (∃ A c, e = .returned (.tuple #[.agg (fRow (.slice A ((o.getD ([], 0)).1.length) c) (o.getD ([], 0)).2), .bool o.isSome]) ∧ RdI w' A (o.getD ([], 0)).1.length (o.getD ([], 0)).1 ∧ (A = none → (o.getD ([], 0)).1.length = 0 ∧ c = 0) ∧ (∀ a, A = some a → w.heap.size ≤ a.block)) ∧ Below w.heap.size w w'
theorem fltNone {w w' : World} {o : Option (List Int × Int)} (hb : Below w.heap.size w w') (h : o = none) : FltIn w o (.returned (.tuple #[.agg (fRow (.slice none 0 0) 0), .bool false])) w' := by
  subst h
  exact ⟨⟨none, 0, rfl, ⟨rfl, fun h => absurd h (by simp)⟩, (fun _ => ⟨rfl, rfl⟩), fun a e => (by cases e)⟩, hb⟩
theorem fltSome {w w' : World} {o : Option (List Int × Int)} {A : Option Addr} {m c : Nat} {cs : List Int} {b : Int} (hb : Below w.heap.size w w') (h : o = some (cs, b)) (hl : cs.length = m) (hr : RdI w' A m cs) (hA : A = none → m = 0 ∧ c = 0) (hF : ∀ a, A = some a → w.heap.size ≤ a.block) : FltIn w o (.returned (.tuple #[.agg (fRow (.slice A m c) b), .bool true])) w' := by
  subst h; subst hl
  exact ⟨⟨A, c, rfl, hr, hA, hF⟩, hb⟩
theorem ownFrom {w : World} {base n c : Nat} {A : Option Addr} {xs : List Value} {t size : Nat} (h : w.ownsRow base t size (.slice A n c) n xs) : ∀ a, A = some a → base ≤ a.block := by
  rintro a rfl
  rcases h.2 with ⟨e, _⟩ | ⟨g, cap, cur, e, hb, _⟩
  · injection e with e1; cases e1
  · injection e with e1; cases e1; exact hb
theorem litN (W : World) (k : Int) : ∀ j u, [Value.int .i64 k][j]? = some u → (W.alloc (.cells #[.int .i64 k] 3)).cell? ((⟨W.heap.size, 0, none⟩ : Addr).add j) = some u := by
  intro j u hj
  cases j with
  | zero => have : Value.int .i64 k = u := by simpa using hj
            subst this
            simp [go_sem, Addr.add]
  | succ j => simp at hj

set_option maxRecDepth 100000 in
set_option maxHeartbeats 16000000 in
theorem filterIn_any (s : ByteArray) (w : World) (hl : LaidG w) (hs : s.size ≤ 60000) (p0 : List UInt8) (rest : List (List UInt8)) (hps : pcs 32 s.data.toList = p0 :: rest) :
    Calls Tryz.prog 35 #[.string s] w (FltIn w (fltO (p0 :: rest))) := by
  obtain ⟨i0, hi0, hz0, hz1, hz2⟩ := info_parts intInfo'
  obtain ⟨w1, hw1⟩ : ∃ W, w.alloc (.cells (fRow (.slice none 0 0) 0) 29) = W := ⟨_, rfl⟩
  have B1 : Hid (Below w.heap.size w w1) := by show Below _ _ _; rw [← hw1]; exact (Below.refl _ _).alloc (Nat.le_refl _) _
  have K1 : Hid (Bk w1 w.heap.size 29 (fRow (.slice none 0 0) 0)) := by show Bk _ _ _ _; rw [← hw1]; exact Bk.new _ _ _
  obtain ⟨q, hq⟩ : ∃ q, rest.length = q := ⟨_, rfl⟩
  have C1 := Lib.hid (splitG_form s w1 (hl.later B1.out) (by omega) (p0 :: rest) (q + 1) hps (by simp [hq]))
  have hlen : s.data.toList.length = s.size := by simp
  have hn1 : q ≤ 60001 := by
    have := pcs_len_le 32 s.data.toList
    rw [hps, List.length_cons, hq] at this; omega
  have HSZ : Hid (∀ p ∈ p0 :: rest, p.length ≤ 60000) := fun p hp => by
    have := pcs_sum 32 s.data.toList p (by rw [hps]; exact hp)
    omega
  have HQ := Lib.hid hq
  have HL0 := Lib.hid hl
  have HW1 := Lib.hid hw1
  have hbase : w.heap.size < w1.heap.size := K1.out.lt
  clear hps hlen hl hw1 hq
  go_enter Tryz.func35, Tryz.ntmps35
  go_wp2_with fail
  rw [show w.alloc (.cells #[.slice none 0 0, .int .i64 0] 29) = w1 from HW1.out]
  refine C1.out.mono ?_
  rintro e w2 ⟨rfl, hc, hg2, hb2⟩
  have HC := Lib.hid hc
  have B2 := Lib.hid (B1.out.trans (hb2.mono B1.out.size))
  have K2 : Hid (Bk w2 w.heap.size 29 (fRow (.slice none 0 0) 0)) := K1.out.later hb2
  obtain ⟨g, hg⟩ : ∃ g, w1.heap.size = g := ⟨_, rfl⟩
  rw [hg] at HC hg2 hbase ⊢
  clear hc hb2 hg B1 K1 HW1 C1
  obtain ⟨P0, hP0⟩ : ∃ P : ByteArray, (⟨p0.toArray⟩ : ByteArray) = P := ⟨_, rfl⟩
  have hP0l : P0.data.toList = p0 := by rw [← hP0]
  have hP0z : P0.size ≤ 60000 := by rw [← hP0, bytes_size]; exact HSZ.out p0 (by simp)
  have c00 : w2.cell? ⟨g, 0, none⟩ = some (.string P0) := by rw [HC.out 0 p0 rfl, ← hP0]; rfl
  have CN0 := Lib.hid (numberR_any P0 4 w2 (HL0.out.later B2.out) (by omega) (by omega) (by omega))
  rw [hP0l] at CN0
  clear hP0 hP0l hP0z
  go_wp2_with fail
  refine CN0.out.mono ?_
  rintro e w3 ⟨⟨v, rfl, hv, _, _⟩, hb3⟩
  have B3 := Lib.hid (B2.out.trans (hb3.mono B2.out.size))
  have K3 : Hid (Bk w3 w.heap.size 29 (fRow (.slice none 0 0) 0)) := K2.out.later hb3
  have HC3 : Hid (∀ k x, (p0 :: rest)[k]? = some x → w3.cell? ⟨g, k, none⟩ = some (sv x)) := fun k x hx => (hb3.cell hg2).trans (HC.out k x hx)
  have hg3 : g < w3.heap.size := Nat.lt_of_lt_of_le hg2 hb3.size
  clear hb3 B2 K2 HC c00 CN0 hg2
  have r0 : w3.cell? ⟨w.heap.size, 0, none⟩ = some (.slice none 0 0) := by rw [K3.out.cell]; rfl
  have r1 : w3.cell? ⟨w.heap.size, 1, none⟩ = some (.int .i64 0) := by rw [K3.out.cell]; rfl
  have f0 : w3.frozen? ⟨w.heap.size, 0, none⟩ = false := K3.out.frozen 0
  have f1 : w3.frozen? ⟨w.heap.size, 1, none⟩ = false := K3.out.frozen 1
  cases hu : numU p0 4 with
  | none =>
    have HN : Hid (fltO (p0 :: rest) = none) := fltO_none hu rest
    clear hu hv
    go_wp2
    refine bodyPost_ret (v := .tuple #[.agg (fRow (.slice none 0 0) 0), .bool false]) (by simp [results, Tryz.results35, go_sem, r0, r1, f0, f1]) rfl ?_
    refine fltNone ?_ HN.out
    exact (B3.out.setCell (Nat.le_refl _) _).setCell (Nat.le_refl _) _
  | some den =>
    rw [hu] at hv
    have hvn : v = den := hv rfl
    clear hv
    subst hvn
    have HU := Lib.hid hu
    clear hu
    have HOF : Hid (fltO (p0 :: rest) = (numsD 4 rest).map fun cs => (cs, v)) := fltO_some HU.out rest
    obtain ⟨w4, hw4⟩ : ∃ W, w3.alloc (.cells (fRow (.slice none 0 0) v) 29) = W := ⟨_, rfl⟩
    have B34 : Hid (Below w3.heap.size w3 w4) := by show Below _ _ _; rw [← hw4]; exact (Below.refl _ _).alloc (Nat.le_refl _) _
    have F4 : Hid (Bk w4 w3.heap.size 29 (fRow (.slice none 0 0) v)) := by show Bk _ _ _ _; rw [← hw4]; exact Bk.new _ _ _
    have HW4 := Lib.hid hw4
    obtain ⟨gf, hgf⟩ : ∃ g, w3.heap.size = g := ⟨_, rfl⟩
    rw [hgf] at B34 F4 hg3
    have HGF := Lib.hid hgf
    obtain ⟨c1, hrun, hc1b, hc1⟩ := tail_run g q
    have HC1 := Lib.hid hc1
    clear hw4 hgf hc1 r0 r1 f0 f1
    go_upto_region 6 with (fail)
    rw [show w3.alloc (.cells #[.slice none 0 0, .int .i64 v] 29) = w4 from HW4.out, HGF.out]
    clear HW4
    go_wp2
    go_loopw [29] (fun i wr => ∃ (j : Nat) (cs : List Int) (p : Value), j ≤ q ∧ i = .int .i64 (j : Int) ∧ Hid (numsD 4 (rest.take j) = some cs ∧ cs.length = j) ∧ Hid (Bk wr gf 29 (fRow p v)) ∧ Hid (wr.ownsRow (gf + 1) 3 1 p j (cs.map (Value.int .i64))) ∧ Hid (Below gf w3 wr)) (fun i _ => q - (intOf i).toNat)
    case atStart => exact ⟨0, [], _, Nat.zero_le _, rfl, ⟨rfl, rfl⟩, F4.out, World.ownsRow_nil _ _ _ _, B34.out⟩
    case round =>
      clear F4 B34
      obtain ⟨j, cs, pv, hj, rfl, HN, HF, HO, HB⟩ := hrel
      have hgf3 : w.heap.size < gf := by have := K3.out.lt; have := HGF.out; omega
      have HBW : Hid (∀ W, Below gf w3 W → Below w.heap.size w W) := fun W hW => B3.out.trans (hW.mono (Nat.le_of_lt hgf3))
      have HKR : Hid (∀ W, Below gf w3 W → Bk W w.heap.size 29 (fRow (.slice none 0 0) 0)) := fun W hW => K3.out.below hW hgf3
      have hszr : gf < wr.heap.size := HF.out.lt
      obtain ⟨Ac, ca, rfl, _⟩ := own_formT HO.out
      by_cases hlt : j < q
      · obtain ⟨p, hp⟩ : ∃ p, rest[j]? = some p := ⟨_, List.getElem?_eq_getElem (by rw [HQ.out]; exact hlt)⟩
        obtain ⟨P, hP⟩ : ∃ P : ByteArray, (⟨p.toArray⟩ : ByteArray) = P := ⟨_, rfl⟩
        have hcj : wr.cell? (c1.add j) = some (.string P) := by
          rw [HC1.out j hlt, HB.out.cell (show (⟨g, 1 + j, none⟩ : Addr).block < gf from hg3), HC3.out (1 + j) p (by rw [Nat.add_comm, List.getElem?_cons_succ]; exact hp), ← hP]
          rfl
        have hPl : P.data.toList = p := by rw [← hP]
        have hPz : P.size ≤ 60000 := by rw [← hP, bytes_size]; exact HSZ.out p (List.mem_cons_of_mem _ (List.mem_of_getElem? hp))
        have CN := Lib.hid (signedR_any P 4 wr (HL0.out.later (HBW.out _ HB.out)) (by omega) (by omega) (by omega))
        rw [hPl] at CN
        have HPJ := Lib.hid hp
        have hltI : (j : Int) < (q : Int) := by omega
        clear hp hP hPl hPz
        go_wp2_with fail
        refine CN.out.mono ?_
        rintro e w5 ⟨⟨k, rfl, hk⟩, hb5⟩
        have F5 : Hid (Bk w5 gf 29 (fRow (.slice Ac j ca) v)) := HF.out.later hb5
        have O5 : Hid (w5.ownsRow (gf + 1) 3 1 (.slice Ac j ca) j (cs.map (Value.int .i64))) := ownBelowT HO.out hb5
        have B5 : Hid (Below gf w3 w5) := HB.out.trans (hb5.mono (Nat.le_of_lt hszr))
        have hsz5 : gf < w5.heap.size := F5.out.lt
        clear hb5 HF HO HB CN hcj
        cases hs4 : numS p 4 with
        | none =>
          have HNO : Hid (fltO (p0 :: rest) = none) := by show _ = _; rw [HOF.out, numsD_bad 4 rest j p HPJ.out hs4]; rfl
          have K5 := Lib.hid (HKR.out _ B5.out)
          clear hk hs4
          have r0 : w5.cell? ⟨w.heap.size, 0, none⟩ = some (.slice none 0 0) := by rw [K5.out.cell]; rfl
          have r1 : w5.cell? ⟨w.heap.size, 1, none⟩ = some (.int .i64 0) := by rw [K5.out.cell]; rfl
          have f0 : w5.frozen? ⟨w.heap.size, 0, none⟩ = false := K5.out.frozen 0
          have f1 : w5.frozen? ⟨w.heap.size, 1, none⟩ = false := K5.out.frozen 1
          go_wp2
          refine bodyPost_ret (v := .tuple #[.agg (fRow (.slice none 0 0) 0), .bool false]) (by simp [results, Tryz.results35, go_sem, r0, r1, f0, f1]) rfl ?_
          refine fltNone ?_ HNO.out
          exact ((HBW.out _ B5.out).setCell (Nat.le_refl _) _).setCell (Nat.le_refl _) _
        | some z =>
          rw [hs4] at hk
          have hkz : k = z := hk rfl
          clear hk
          subst hkz
          have HK : Hid (numsD 4 (rest.take (j + 1)) = some (cs ++ [k]) ∧ (cs ++ [k]).length = j + 1) := ⟨numsD_take 4 rest j p cs k HPJ.out HN.out.1 hs4, by rw [List.length_append, HN.out.2]; rfl⟩
          have t0 : w5.cell? ⟨gf, 0, none⟩ = some (.slice Ac j ca) := by rw [F5.out.cell]; rfl
          clear hs4
          go_wp2_with (at_builtin; refine wpList_append_own _ rfl (.tmp 42) (.tmp 44) 27 rfl (gf + 1) 3 i0 _ 1 8 Tryz.underlying27 hi0 hz0 hz1 hz2 rfl (by decide) _ _ _ rfl (O5.out.alloc _) ⟨w5.heap.size, 0, none⟩ 1 1 [.int .i64 k] rfl rfl (litN w5 k) (by intro u hu; rw [List.mem_singleton.1 hu]; rfl) (by unfold maxLen; omega) (by omega) (by simp; omega) ?_)
          intro v' w6 hown' hgrow _
          obtain ⟨g', cap', rfl⟩ := ownsRow_succ hown'
          obtain ⟨v', hv'⟩ : ∃ v, Value.slice (some ⟨g', 0, none⟩) (j + 1) cap' = v := ⟨_, rfl⟩
          rw [hv'] at hown'
          have HV' := Lib.hid hv'
          have F6 : Hid (Bk w6 gf 29 (fRow (.slice Ac j ca) v)) := (F5.out.alloc _).grown hgrow (fun e => by have := (O5.out.lt _ e.symm).1; omega)
          have O6 : Hid (w6.ownsRow (gf + 1) 3 1 v' (j + 1) ((cs ++ [k]).map (Value.int .i64))) := by
            show World.ownsRow _ _ _ _ _ _ _
            rw [List.map_append, List.map_singleton]
            exact hown'
          have B6 : Hid (Below gf w3 w6) := (B5.out.alloc (Nat.le_of_lt hsz5) _).grown hgrow (by simp; omega) (fun z e => by have := (O5.out.lt z e).1; omega)
          have F7 : Hid (Bk (w6.setCell ⟨gf, 0, none⟩ v') gf 29 (fRow v' v)) := F6.out.set_ 0 v'
          have O7 : Hid ((w6.setCell ⟨gf, 0, none⟩ v').ownsRow (gf + 1) 3 1 v' (j + 1) ((cs ++ [k]).map (Value.int .i64))) := ownFarS O6.out ⟨gf, 0, none⟩ v' (Nat.lt_succ_self gf)
          have B7 : Hid (Below gf w3 (w6.setCell ⟨gf, 0, none⟩ v')) := B6.out.setCell (Nat.le_refl _) _
          have t6 : w6.cell? ⟨gf, 0, none⟩ = some (.slice Ac j ca) := by rw [F6.out.cell]; rfl
          have f6 : w6.frozen? ⟨gf, 0, none⟩ = false := F6.out.frozen 0
          clear hown' hgrow F5 O5 B5 F6 O6 B6 t0
          rw [← HV'.out] at F7 O7 B7
          clear hv' HV'
          go_wp2
          go_roundw
          case rel => exact ⟨j + 1, cs ++ [k], _, by omega, by go_num, HK.out, F7.out, O7.out, B7.out⟩
          case measure => simp [intOf]; omega
      · obtain rfl : q = j := by omega
        have hall : rest.take q = rest := List.take_of_length_le (by rw [HQ.out]; exact Nat.le_refl _)
        have HNO : Hid (fltO (p0 :: rest) = some (cs, v)) := by show _ = _; rw [HOF.out, ← hall, HN.out.1]; rfl
        have K5 := Lib.hid (HKR.out _ HB.out)
        have q0 : wr.cell? ⟨gf, 0, none⟩ = some (.slice Ac q ca) := by rw [HF.out.cell]; rfl
        have q1 : wr.cell? ⟨gf, 1, none⟩ = some (.int .i64 v) := by rw [HF.out.cell]; rfl
        have r0 : wr.cell? ⟨w.heap.size, 0, none⟩ = some (.slice none 0 0) := by rw [K5.out.cell]; rfl
        have r1 : wr.cell? ⟨w.heap.size, 1, none⟩ = some (.int .i64 0) := by rw [K5.out.cell]; rfl
        have f0 : wr.frozen? ⟨w.heap.size, 0, none⟩ = false := K5.out.frozen 0
        have f1 : wr.frozen? ⟨w.heap.size, 1, none⟩ = false := K5.out.frozen 1
        have hne : gf ≠ w.heap.size := by omega
        obtain ⟨A2, c2, e2, _, hrd, hnl⟩ := rd_ownN (n := cs.length) (by rw [HN.out.2]; exact ownFarS (ownFarS HO.out ⟨w.heap.size, 0, none⟩ (.slice Ac q ca) (by show w.heap.size < gf + 1; omega)) ⟨w.heap.size, 1, none⟩ (.int .i64 v) (by show w.heap.size < gf + 1; omega))
        injection e2 with e3 e4 e5
        subst e3; subst e5
        clear e4
        have HRD := Lib.hid hrd
        have HNLL := Lib.hid hnl
        have HFA := Lib.hid (ownFrom HO.out)
        clear hall hrd hnl
        go_wp2
        refine bodyPost_ret (v := .tuple #[.agg (fRow (.slice Ac q ca) v), .bool true]) (by simp [results, Tryz.results35, go_sem, r0, r1, f0, f1]) rfl ?_
        refine fltSome ?_ HNO.out HN.out.2 ?_ ?_ (fun a e => by have := HFA.out a e; omega)
        · exact ((HBW.out _ HB.out).setCell (Nat.le_refl _) _).setCell (Nat.le_refl _) _
        · have := HRD.out; rw [HN.out.2] at this; exact this
        · have := HNLL.out; rw [HN.out.2] at this; exact this
end Go.Proofs.YtjjflbnopphciacGreatDoor

namespace Go.Proofs.YtjjflbnopphciacGreatDoor
open Go.RowKit

/-- What both ParseFilter answer. -/
def FltRes (w : World) (r : (List Int × Int) × Int) (e : Ending) (w' : World) : Prop :=
  (∃ A c, e = .returned (.tuple #[.agg (fRow (.slice A r.1.1.length c) r.1.2), .int .i64 r.2]) ∧ RdI w' A r.1.1.length r.1.1 ∧ (A = none → r.1.1.length = 0 ∧ c = 0)) ∧ Below w.heap.size w w'
theorem fltErr {w w' : World} {r : (List Int × Int) × Int} {E : Int} (hb : Below w.heap.size w w') (h : r = (([], 0), E)) : FltRes w r (.returned (.tuple #[.agg (fRow (.slice none 0 0) 0), .int .i64 E])) w' := by
  subst h
  exact ⟨⟨none, 0, rfl, ⟨rfl, fun h => absurd h (by simp)⟩, fun _ => ⟨rfl, rfl⟩⟩, hb⟩
theorem fltOk {w w' : World} {r : (List Int × Int) × Int} {A : Option Addr} {m c : Nat} {cs : List Int} {b : Int} (hb : Below w.heap.size w w') (h : r = ((cs, b), 0)) (hl : cs.length = m) (hr : RdI w' A m cs) (hA : A = none → m = 0 ∧ c = 0) : FltRes w r (.returned (.tuple #[.agg (fRow (.slice A m c) b), .int .i64 0])) w' := by
  subst h; subst hl
  exact ⟨⟨A, c, rfl, hr, hA⟩, hb⟩
theorem fltR_ok {cs : List Int} {b : Int} (h : fltE cs b = 0) : fltR (some (cs, b)) = ((cs, b), 0) := if_pos h
theorem fltR_err {cs : List Int} {b : Int} (h : fltE cs b ≠ 0) : fltR (some (cs, b)) = (([], 0), fltE cs b) := if_neg h
theorem rdFar {w : World} {A : Option Addr} {n : Nat} {xs : List Int} (h : RdI w A n xs) (p : Addr) (u : Value) (hp : ∀ a, A = some a → 0 < n → a.block ≠ p.block) : RdI (w.setCell p u) A n xs := by
  refine ⟨h.1, fun hn => ?_⟩
  obtain ⟨ad, e, hlt, hc⟩ := h.2 hn
  refine ⟨ad, e, by rw [World.size_setCell]; exact hlt, fun j hj => ?_⟩
  rw [World.cell?_of_block (heap_setCell_other w p (ad.add j).block u (by rw [addBlock]; exact hp ad e hn))]
  exact hc j hj

set_option maxRecDepth 100000 in
set_option maxHeartbeats 8000000 in
theorem parseFilter_any (s : ByteArray) (w : World) (hl : LaidG w) (hs : s.size ≤ 60000) :
    Calls Tryz.prog 12 #[.string s] w (FltRes w (fltS s)) := by
  obtain ⟨w1, hw1⟩ : ∃ W, w.alloc (.cells (fRow (.slice none 0 0) 0) 29) = W := ⟨_, rfl⟩
  have B1 : Hid (Below w.heap.size w w1) := by show Below _ _ _; rw [← hw1]; exact (Below.refl _ _).alloc (Nat.le_refl _) _
  have K1 : Hid (Bk w1 w.heap.size 29 (fRow (.slice none 0 0) 0)) := by show Bk _ _ _ _; rw [← hw1]; exact Bk.new _ _ _
  obtain ⟨p0, rest, hps⟩ : ∃ p0 rest, pcs 32 s.data.toList = p0 :: rest := by
    cases h : pcs 32 s.data.toList with
    | nil => exact absurd h (pcs_ne _ _)
    | cons a t => exact ⟨a, t, rfl⟩
  have CF := Lib.hid (filterIn_any s w1 (hl.later B1.out) hs p0 rest hps)
  have HS : Hid (fltS s = fltR (fltO (p0 :: rest))) := by show _ = _; unfold fltS; rw [hps]
  have hlen : ∀ cs b, fltO (p0 :: rest) = some (cs, b) → cs.length ≤ 60001 := by
    intro cs b h
    cases hu : numU p0 4 with
    | none => rw [fltO_none hu] at h; cases h
    | some d =>
      rw [fltO_some hu] at h
      cases hn : numsD 4 rest with
      | none => rw [hn] at h; cases h
      | some l =>
        rw [hn] at h
        have h1 : (l, d) = (cs, b) := Option.some.inj h
        have h2 : l = cs := (Prod.mk.inj h1).1
        have h3 := (numsD_bd 4 rest l hn).1
        have h4 := pcs_len_le 32 s.data.toList
        have h5 : s.data.toList.length = s.size := by simp
        rw [hps, List.length_cons] at h4
        rw [← h2, h3]; omega
  have HW1 := Lib.hid hw1
  have hbase : w.heap.size < w1.heap.size := K1.out.lt
  clear hps hw1 hl
  rw [HS.out]
  cases ho : fltO (p0 :: rest) with
  | none =>
    rw [ho] at CF
    have HR : Hid (fltR none = (([], 0), 7)) := rfl
    clear ho hlen
    go_enter Tryz.func12, Tryz.ntmps12
    go_wp2_with fail
    rw [show w.alloc (.cells #[.slice none 0 0, .int .i64 0] 29) = w1 from HW1.out]
    refine CF.out.mono ?_
    rintro e w2 ⟨⟨A, c, rfl, _, _, _⟩, hb⟩
    have B2 := Lib.hid (B1.out.trans (hb.mono B1.out.size))
    have K2 : Hid (Bk w2 w.heap.size 29 (fRow (.slice none 0 0) 0)) := K1.out.later hb
    clear hb K1 B1 CF
    obtain ⟨w3, hw3⟩ : ∃ W, w2.alloc (.cells #[.slice A 0 c, .int .i64 0] 29) = W := ⟨_, rfl⟩
    have B3 : Hid (Below w.heap.size w w3) := by show Below _ _ _; rw [← hw3]; exact B2.out.alloc B2.out.size _
    have K3 : Hid (Bk w3 w.heap.size 29 (fRow (.slice none 0 0) 0)) := by show Bk _ _ _ _; rw [← hw3]; exact K2.out.alloc _
    have F3 : Hid (Bk w3 w2.heap.size 29 #[.slice A 0 c, .int .i64 0]) := by show Bk _ _ _ _; rw [← hw3]; exact Bk.new _ _ _
    have hne : w.heap.size < w2.heap.size := K2.out.lt
    have HW3 := Lib.hid hw3
    obtain ⟨gf, hgf⟩ : ∃ g, w2.heap.size = g := ⟨_, rfl⟩
    rw [hgf] at F3 hne
    have HGF := Lib.hid hgf
    clear hw3 hgf K2 B2
    go_upto_region 2 with (fail)
    rw [show w2.alloc (.cells #[.slice A 0 c, .int .i64 0] 29) = w3 from HW3.out, HGF.out]
    have r0 : w3.cell? ⟨w.heap.size, 0, none⟩ = some (.slice none 0 0) := by rw [K3.out.cell]; rfl
    have r1 : w3.cell? ⟨w.heap.size, 1, none⟩ = some (.int .i64 0) := by rw [K3.out.cell]; rfl
    have f0 : w3.frozen? ⟨w.heap.size, 0, none⟩ = false := K3.out.frozen 0
    have f1 : w3.frozen? ⟨w.heap.size, 1, none⟩ = false := K3.out.frozen 1
    go_wp2
    refine bodyPost_ret (v := .tuple #[.agg (fRow (.slice none 0 0) 0), .int .i64 7]) (by simp [results, Tryz.results12, go_sem, r0, r1, f0, f1]) rfl ?_
    exact fltErr ((B3.out.setCell (Nat.le_refl _) _).setCell (Nat.le_refl _) _) HR.out
  | some r =>
    obtain ⟨cs, b⟩ := r
    rw [ho] at CF
    have hcl := hlen cs b ho
    obtain ⟨m, hm⟩ : ∃ m, cs.length = m := ⟨_, rfl⟩
    have HM := Lib.hid hm
    obtain ⟨E, hE⟩ : ∃ E, fltE cs b = E := ⟨_, rfl⟩
    have HE := Lib.hid hE
    rw [hm] at hcl
    clear ho hlen hm hE
    go_enter Tryz.func12, Tryz.ntmps12
    go_wp2_with fail
    rw [show w.alloc (.cells #[.slice none 0 0, .int .i64 0] 29) = w1 from HW1.out]
    refine CF.out.mono ?_
    rintro e w2 ⟨⟨A, c, rfl, hrd, hA, hfa⟩, hb⟩
    rw [show (Option.getD (some (cs, b)) ([], 0)).1.length = m from HM.out] at hrd hA ⊢
    have B2 := Lib.hid (B1.out.trans (hb.mono B1.out.size))
    have K2 : Hid (Bk w2 w.heap.size 29 (fRow (.slice none 0 0) 0)) := K1.out.later hb
    have hrd' : RdI w2 A m cs := hrd
    have hfar : ∀ a, A = some a → 0 < m → a.block ≠ w.heap.size := fun a e _ => by have := hfa a e; omega
    have HA := Lib.hid hA
    clear hb K1 B1 CF hrd hA hfa
    obtain ⟨w3, hw3⟩ : ∃ W, w2.alloc (.cells #[.slice A m c, .int .i64 b] 29) = W := ⟨_, rfl⟩
    have B3 : Hid (Below w.heap.size w w3) := by show Below _ _ _; rw [← hw3]; exact B2.out.alloc B2.out.size _
    have K3 : Hid (Bk w3 w.heap.size 29 (fRow (.slice none 0 0) 0)) := by show Bk _ _ _ _; rw [← hw3]; exact K2.out.alloc _
    have F3 : Hid (Bk w3 w2.heap.size 29 #[.slice A m c, .int .i64 b]) := by show Bk _ _ _ _; rw [← hw3]; exact Bk.new _ _ _
    have hne : w.heap.size < w2.heap.size := K2.out.lt
    have HW3 := Lib.hid hw3
    obtain ⟨gf, hgf⟩ : ∃ g, w2.heap.size = g := ⟨_, rfl⟩
    rw [hgf] at F3 hne
    have HGF := Lib.hid hgf
    have R3 : Hid (RdI w3 A m cs) := by show RdI _ _ _ _; rw [← hw3]; exact hrd'.below ((Below.refl _ _).alloc (Nat.le_refl _) _)
    have HF := Lib.hid hfar
    clear hw3 hgf K2 B2 hrd' hfar
    go_upto_region 2 with (fail)
    rw [show w2.alloc (.cells #[.slice A m c, .int .i64 b] 29) = w3 from HW3.out, HGF.out]
    have CC := Lib.hid (CheckFilter_any A m c cs b w3 R3.out (by omega))
    rw [HE.out] at CC
    have q0 : w3.cell? ⟨gf, 0, none⟩ = some (.slice A m c) := by rw [F3.out.cell]; rfl
    have q1 : w3.cell? ⟨gf, 1, none⟩ = some (.int .i64 b) := by rw [F3.out.cell]; rfl
    go_wp2_with fail
    refine CC.out.mono ?_
    rintro e w4 ⟨rfl, hb4⟩
    have B4 := Lib.hid (B3.out.trans (hb4.mono B3.out.size))
    have K4 : Hid (Bk w4 w.heap.size 29 (fRow (.slice none 0 0) 0)) := K3.out.later hb4
    have F4 : Hid (Bk w4 gf 29 #[.slice A m c, .int .i64 b]) := F3.out.later hb4
    have R4 := Lib.hid (R3.out.below hb4)
    clear hb4 q0 q1 B3 K3 F3 R3 CC
    have r0 : w4.cell? ⟨w.heap.size, 0, none⟩ = some (.slice none 0 0) := by rw [K4.out.cell]; rfl
    have r1 : w4.cell? ⟨w.heap.size, 1, none⟩ = some (.int .i64 0) := by rw [K4.out.cell]; rfl
    have f0 : w4.frozen? ⟨w.heap.size, 0, none⟩ = false := K4.out.frozen 0
    have f1 : w4.frozen? ⟨w.heap.size, 1, none⟩ = false := K4.out.frozen 1
    by_cases h0 : E = 0
    · have HR : Hid (fltR (some (cs, b)) = ((cs, b), 0)) := fltR_ok (HE.out.trans h0)
      subst h0
      have q0 : w4.cell? ⟨gf, 0, none⟩ = some (.slice A m c) := by rw [F4.out.cell]; rfl
      have q1 : w4.cell? ⟨gf, 1, none⟩ = some (.int .i64 b) := by rw [F4.out.cell]; rfl
      go_wp2
      refine bodyPost_ret (v := .tuple #[.agg (fRow (.slice A m c) b), .int .i64 0]) (by simp [results, Tryz.results12, go_sem, r0, r1, f0, f1]) rfl ?_
      exact fltOk ((B4.out.setCell (Nat.le_refl _) _).setCell (Nat.le_refl _) _) HR.out HM.out (rdFar (rdFar R4.out ⟨w.heap.size, 0, none⟩ _ HF.out) ⟨w.heap.size, 1, none⟩ _ HF.out) HA.out
    · have HR : Hid (fltR (some (cs, b)) = (([], 0), E)) := by show _ = _; rw [fltR_err (by rw [HE.out]; exact h0), HE.out]
      have hEn : (E != 0) = true := by simpa using h0
      clear h0
      go_wp2
      refine bodyPost_ret (v := .tuple #[.agg (fRow (.slice none 0 0) 0), .int .i64 E]) (by simp [results, Tryz.results12, go_sem, r0, r1, f0, f1]) rfl ?_
      exact fltErr ((B4.out.setCell (Nat.le_refl _) _).setCell (Nat.le_refl _) _) HR.out
end Go.Proofs.YtjjflbnopphciacGreatDoor

namespace Go.Proofs.YtjjflbnopphciacGreatDoor
open Go.RowKit

theorem numU_of_plain {l : List UInt8} {d : Nat} {k : Int} (h : l.head? ≠ some 45) (hk : numS l d = some k) : numU l d = some k := by rw [← numS_plain h]; exact hk
theorem numS_ne {l : List UInt8} {d : Nat} {k : Int} (hk : numS l d = some k) : l ≠ [] := by
  rintro rfl
  unfold numS digs at hk
  simp at hk

set_option maxRecDepth 100000 in
set_option maxHeartbeats 16000000 in
theorem refParseFilter_any (s : ByteArray) (w : World) (hs : s.size ≤ 60000) :
    Calls Tryz.prog 14 #[.string s] w (FltRes w (fltS s)) := by
  obtain ⟨i0, hi0, hz0, hz1, hz2⟩ := info_parts intInfo'
  obtain ⟨w1, hw1⟩ : ∃ W, w.alloc (.cells (fRow (.slice none 0 0) 0) 29) = W := ⟨_, rfl⟩
  have B1 : Hid (Below w.heap.size w w1) := by show Below _ _ _; rw [← hw1]; exact (Below.refl _ _).alloc (Nat.le_refl _) _
  have K1 : Hid (Bk w1 w.heap.size 29 (fRow (.slice none 0 0) 0)) := by show Bk _ _ _ _; rw [← hw1]; exact Bk.new _ _ _
  obtain ⟨p0, rest, hps⟩ : ∃ p0 rest, pcs 32 s.data.toList = p0 :: rest := by
    cases h : pcs 32 s.data.toList with
    | nil => exact absurd h (pcs_ne _ _)
    | cons a t => exact ⟨a, t, rfl⟩
  obtain ⟨q, hq⟩ : ∃ q, rest.length = q := ⟨_, rfl⟩
  have C1 := Lib.hid (cut_form s 32 32 rfl w1 (by omega) (p0 :: rest) (q + 1) hps (by simp [hq]))
  have hlen : s.data.toList.length = s.size := by simp
  have hn1 : q ≤ 60001 := by
    have := pcs_len_le 32 s.data.toList
    rw [hps, List.length_cons, hq] at this; omega
  have HSZ : Hid (∀ p ∈ p0 :: rest, p.length ≤ 60000) := fun p hp => by
    have := pcs_sum 32 s.data.toList p (by rw [hps]; exact hp)
    omega
  have HSF : Hid (fltS s = fltR (fltO (p0 :: rest))) := by show _ = _; unfold fltS; rw [hps]
  have HQ := Lib.hid hq
  have HW1 := Lib.hid hw1
  have hbase : w.heap.size < w1.heap.size := K1.out.lt
  clear hps hlen hw1 hq
  rw [HSF.out]
  go_enter Tryz.func14, Tryz.ntmps14
  go_wp2_with fail
  rw [show w.alloc (.cells #[.slice none 0 0, .int .i64 0] 29) = w1 from HW1.out]
  refine C1.out.mono ?_
  rintro e w2 ⟨g, cp, rfl, hg1, hg2, hc, hb2⟩
  have HC := Lib.hid hc
  have B2 := Lib.hid (B1.out.trans (hb2.mono B1.out.size))
  have K2 : Hid (Bk w2 w.heap.size 29 (fRow (.slice none 0 0) 0)) := K1.out.later hb2
  clear hc hb2 B1 K1 HW1 C1
  obtain ⟨w3, hw3⟩ : ∃ W, w2.alloc (.cells (fRow (.slice none 0 0) 0) 29) = W := ⟨_, rfl⟩
  have B23 : Hid (Below w2.heap.size w2 w3) := by show Below _ _ _; rw [← hw3]; exact (Below.refl _ _).alloc (Nat.le_refl _) _
  have F3 : Hid (Bk w3 w2.heap.size 29 (fRow (.slice none 0 0) 0)) := by show Bk _ _ _ _; rw [← hw3]; exact Bk.new _ _ _
  have HW3 := Lib.hid hw3
  obtain ⟨gf, hgf⟩ : ∃ g, w2.heap.size = g := ⟨_, rfl⟩
  have hgf3 : w.heap.size < gf := by rw [← hgf]; exact K2.out.lt
  rw [hgf] at B23 F3 hg2
  have HGF := Lib.hid hgf
  have HBW : Hid (∀ W, Below gf w2 W → Below w.heap.size w W) := fun W hW => B2.out.trans (hW.mono (Nat.le_of_lt hgf3))
  have HKR : Hid (∀ W, Below gf w2 W → Bk W w.heap.size 29 (fRow (.slice none 0 0) 0)) := fun W hW => K2.out.below hW hgf3
  have HCC : Hid (∀ W, Below gf w2 W → ∀ k x, (p0 :: rest)[k]? = some x → W.cell? ⟨g, k, none⟩ = some (sv x)) := fun W hW k x hx => (hW.cell (show (⟨g, k, none⟩ : Addr).block < gf from hg2)).trans (HC.out k x hx)
  clear hw3 hgf B2 K2 HC
  go_upto_region 3 with (fail)
  rw [show w2.alloc (.cells #[.slice none 0 0, .int .i64 0] 29) = w3 from HW3.out, HGF.out]
  clear HW3
  go_wp2
  go_loopw [6] (fun i wr => ∃ (j : Nat) (cs : List Int) (p : Value) (b : Int), j ≤ q + 1 ∧ i = .int .i64 (j : Int) ∧ Hid ((j = 0 → b = 0 ∧ p = .slice none 0 0) ∧ (0 < j → numU p0 4 = some b)) ∧ Hid (numsD 4 (rest.take (j - 1)) = some cs ∧ cs.length = j - 1) ∧ Hid (Bk wr gf 29 (fRow p b)) ∧ Hid (wr.ownsRow (gf + 1) 3 1 p (j - 1) (cs.map (Value.int .i64))) ∧ Hid (Below gf w2 wr)) (fun i _ => q + 1 - (intOf i).toNat)
  case atStart => exact ⟨0, [], _, 0, Nat.zero_le _, rfl, ⟨fun _ => ⟨rfl, rfl⟩, fun h => absurd h (by omega)⟩, ⟨rfl, rfl⟩, F3.out, World.ownsRow_nil _ _ _ _, B23.out⟩
  case round =>
    clear F3 B23
    obtain ⟨j, cs, pv, b, hj, rfl, HJ, HN, HF, HO, HB⟩ := hrel
    have hszr : gf < wr.heap.size := HF.out.lt
    by_cases hlt : j < q + 1
    · obtain ⟨p, hp⟩ : ∃ p, (p0 :: rest)[j]? = some p := ⟨_, List.getElem?_eq_getElem (by rw [List.length_cons, HQ.out]; exact hlt)⟩
      obtain ⟨P, hP⟩ : ∃ P : ByteArray, (⟨p.toArray⟩ : ByteArray) = P := ⟨_, rfl⟩
      have hcj : wr.cell? ⟨g, j, none⟩ = some (.string P) := by rw [HCC.out _ HB.out j p hp, ← hP]; rfl
      have hPl : P.data.toList = p := by rw [← hP]
      have hPz : P.size ≤ 60000 := by rw [← hP, bytes_size]; exact HSZ.out p (List.mem_of_getElem? hp)
      have CN := Lib.hid (number_any P 4 wr (by omega) (by omega) (by omega))
      rw [hPl] at CN
      have HPJ := Lib.hid hp
      have HPL := Lib.hid hPl
      have hltI : (j : Int) < ((q + 1 : Nat) : Int) := by omega
      have hltI2 : (j : Int) < (q : Int) + 1 := by omega
      clear hp hP hPl
      cases hs4 : numS p 4 with
      | none =>
        rw [hs4] at CN
        have HBAD : Hid (fltR (fltO (p0 :: rest)) = (([], 0), 7)) := by
          show _ = _
          cases j with
          | zero =>
            have hpp : p0 = p := by have := HPJ.out; simpa using this
            have hu : numU p0 4 = none := by rw [hpp]; unfold numU; rw [hs4]
            rw [fltO_none hu]; rfl
          | succ j =>
            have hu := HJ.out.2 (by omega)
            rw [fltO_some hu, numsD_bad 4 rest j p (by have := HPJ.out; simpa using this) hs4]; rfl
        clear hs4
        have KR := Lib.hid (HKR.out _ HB.out)
        have r0 : wr.cell? ⟨w.heap.size, 0, none⟩ = some (.slice none 0 0) := by rw [KR.out.cell]; rfl
        have r1 : wr.cell? ⟨w.heap.size, 1, none⟩ = some (.int .i64 0) := by rw [KR.out.cell]; rfl
        have f0 : wr.frozen? ⟨w.heap.size, 0, none⟩ = false := KR.out.frozen 0
        have f1 : wr.frozen? ⟨w.heap.size, 1, none⟩ = false := KR.out.frozen 1
        go_wp2_with (go_at_call 40; refine CN.out.mono ?_; rintro e w' ⟨rfl, hw⟩; obtain rfl := hw)
        refine bodyPost_ret (v := .tuple #[.agg (fRow (.slice none 0 0) 0), .int .i64 7]) (by simp [results, Tryz.results14, go_sem, r0, r1, f0, f1]) rfl ?_
        exact fltErr (((HBW.out _ HB.out).setCell (Nat.le_refl _) _).setCell (Nat.le_refl _) _) HBAD.out
      | some k =>
        rw [hs4] at CN
        have hPpos : 0 < P.size := by
          have h1 := numS_ne hs4
          rw [← HPL.out] at h1
          have h2 := List.length_pos_iff.2 h1
          simpa using h2
        by_cases hj0 : j = 0
        · have hpp : p0 = p := by have := HPJ.out; rw [hj0] at this; simpa using this
          by_cases hm : p.head? = some 45
          · have HBAD : Hid (fltR (fltO (p0 :: rest)) = (([], 0), 7)) := by
              show _ = _
              rw [fltO_none (by rw [hpp]; exact numU_minus hm)]; rfl
            have hP0 : P[0] = 45 := by
              have h1 := str_get P 0 hPpos
              rw [HPL.out, ← List.head?_eq_getElem?, hm] at h1
              exact (Option.some.inj h1).symm
            have hce : (((P[0].toNat : Nat) : Int) == 45) = true := by rw [hP0]; rfl
            subst hj0
            clear hs4 hm hpp
            have KR := Lib.hid (HKR.out _ HB.out)
            have r0 : wr.cell? ⟨w.heap.size, 0, none⟩ = some (.slice none 0 0) := by rw [KR.out.cell]; rfl
            have r1 : wr.cell? ⟨w.heap.size, 1, none⟩ = some (.int .i64 0) := by rw [KR.out.cell]; rfl
            have f0 : wr.frozen? ⟨w.heap.size, 0, none⟩ = false := KR.out.frozen 0
            have f1 : wr.frozen? ⟨w.heap.size, 1, none⟩ = false := KR.out.frozen 1
            go_wp2_with (go_at_call 40; refine CN.out.mono ?_; rintro e w' ⟨rfl, hw⟩; obtain rfl := hw)
            refine bodyPost_ret (v := .tuple #[.agg (fRow (.slice none 0 0) 0), .int .i64 7]) (by simp [results, Tryz.results14, go_sem, r0, r1, f0, f1]) rfl ?_
            exact fltErr (((HBW.out _ HB.out).setCell (Nat.le_refl _) _).setCell (Nat.le_refl _) _) HBAD.out
          · have HU : Hid (numU p0 4 = some k) := by show _ = _; rw [hpp]; exact numU_of_plain hm hs4
            have hP0 : ¬ P[0] = 45 := by
              intro e
              have h1 := str_get P 0 hPpos
              rw [HPL.out, ← List.head?_eq_getElem?, e] at h1
              exact hm h1
            have hce : (((P[0].toNat : Nat) : Int) == 45) = false := by
              refine beq_eq_false_iff_ne.2 fun e => hP0 ?_
              apply UInt8.toNat_inj.1
              have : (45 : UInt8).toNat = 45 := rfl
              omega
            subst hj0
            obtain ⟨rfl, rfl⟩ := HJ.out.1 rfl
            have hcs : cs = [] := List.eq_nil_of_length_eq_zero HN.out.2
            subst hcs
            have t0 : wr.cell? ⟨gf, 1, none⟩ = some (.int .i64 0) := by rw [HF.out.cell]; rfl
            have f1 : wr.frozen? ⟨gf, 1, none⟩ = false := HF.out.frozen 1
            have F7 : Hid (Bk (wr.setCell ⟨gf, 1, none⟩ (.int .i64 k)) gf 29 (fRow (.slice none 0 0) k)) := HF.out.set_ 1 _
            have B7 : Hid (Below gf w2 (wr.setCell ⟨gf, 1, none⟩ (.int .i64 k))) := HB.out.setCell (Nat.le_refl _) _
            clear hs4 hm hpp hP0
            go_wp2_with (go_at_call 40; refine CN.out.mono ?_; rintro e w' ⟨rfl, hw⟩; obtain rfl := hw)
            go_roundw
            case rel => exact ⟨0 + 1, [], _, k, by omega, by go_num, ⟨fun h => absurd h (by omega), fun _ => HU.out⟩, ⟨rfl, rfl⟩, F7.out, World.ownsRow_nil _ _ _ _, B7.out⟩
            case measure => first | (simp [intOf]; done) | (simp [intOf]; omega)
        · obtain ⟨y, hy⟩ : ∃ y, j = y + 1 := ⟨j - 1, by omega⟩
          have hjb : ((j : Int) == 0) = false := by rw [beq_eq_false_iff_ne]; omega
          obtain ⟨Ac, ca, rfl, _⟩ := own_formT HO.out
          have HK : Hid (numsD 4 (rest.take (j + 1 - 1)) = some (cs ++ [k]) ∧ (cs ++ [k]).length = j + 1 - 1) := by
            have h1 := HN.out.1
            rw [hy, Nat.add_sub_cancel] at h1
            refine ⟨?_, by rw [List.length_append, HN.out.2]; simp; omega⟩
            rw [Nat.add_sub_cancel, hy]
            exact numsD_take 4 rest y p cs k (by have := HPJ.out; rw [hy] at this; simpa using this) h1 hs4
          have HU := Lib.hid (HJ.out.2 (by omega))
          have t0 : wr.cell? ⟨gf, 0, none⟩ = some (.slice Ac (j - 1) ca) := by rw [HF.out.cell]; rfl
          clear hs4 hy
          obtain ⟨m, hm⟩ : ∃ m, j - 1 = m := ⟨_, rfl⟩
          rw [hm] at HO t0 HF
          have HMJ : Hid (j + 1 - 1 = m + 1) := by show _ = _; omega
          rw [HMJ.out] at HK
          have hmq : m ≤ 60001 := by omega
          have hHN := HN.out.2
          rw [hm] at hHN
          clear hm HN
          go_wp2_with (first
            | (go_at_call 40; refine CN.out.mono ?_; rintro e w' ⟨rfl, hw⟩; obtain rfl := hw; clear CN)
            | (at_builtin; refine wpList_append_own _ rfl (.tmp 47) (.tmp 49) 27 rfl (gf + 1) 3 i0 _ 1 8 Tryz.underlying27 hi0 hz0 hz1 hz2 rfl (by decide) _ _ _ rfl (HO.out.alloc _) ⟨wr.heap.size, 0, none⟩ 1 1 [.int .i64 k] rfl rfl (litN wr k) (by intro u hu; rw [List.mem_singleton.1 hu]; rfl) (by unfold maxLen; omega) (by omega) (by simp; omega) ?_))
          intro v' w6 hown' hgrow _
          obtain ⟨g', cap', rfl⟩ := ownsRow_succ hown'
          obtain ⟨v', hv'⟩ : ∃ v, Value.slice (some ⟨g', 0, none⟩) (m + 1) cap' = v := ⟨_, rfl⟩
          rw [hv'] at hown'
          have HV' := Lib.hid hv'
          have F6 : Hid (Bk w6 gf 29 (fRow (.slice Ac m ca) b)) := (HF.out.alloc _).grown hgrow (fun e => by have := (HO.out.lt _ e.symm).1; omega)
          have O6 : Hid (w6.ownsRow (gf + 1) 3 1 v' (m + 1) ((cs ++ [k]).map (Value.int .i64))) := by
            show World.ownsRow _ _ _ _ _ _ _
            rw [List.map_append, List.map_singleton]
            exact hown'
          have B6 : Hid (Below gf w2 w6) := (HB.out.alloc (Nat.le_of_lt hszr) _).grown hgrow (by simp; omega) (fun z e => by have := (HO.out.lt z e).1; omega)
          have F7 : Hid (Bk (w6.setCell ⟨gf, 0, none⟩ v') gf 29 (fRow v' b)) := F6.out.set_ 0 v'
          have O7 : Hid ((w6.setCell ⟨gf, 0, none⟩ v').ownsRow (gf + 1) 3 1 v' (m + 1) ((cs ++ [k]).map (Value.int .i64))) := ownFarS O6.out ⟨gf, 0, none⟩ v' (Nat.lt_succ_self gf)
          have B7 : Hid (Below gf w2 (w6.setCell ⟨gf, 0, none⟩ v')) := B6.out.setCell (Nat.le_refl _) _
          have t6 : w6.cell? ⟨gf, 0, none⟩ = some (.slice Ac m ca) := by rw [F6.out.cell]; rfl
          have f6 : w6.frozen? ⟨gf, 0, none⟩ = false := F6.out.frozen 0
          clear hown' hgrow HF HO HB F6 O6 B6 t0
          rw [← HV'.out] at F7 O7 B7
          clear hv' HV'
          go_wp2
          go_roundw
          case rel => exact ⟨j + 1, cs ++ [k], _, b, by omega, by go_num, ⟨fun h => absurd h (by omega), fun _ => HU.out⟩, by rw [HMJ.out]; exact HK.out, F7.out, by rw [HMJ.out]; exact O7.out, B7.out⟩
          case measure => simp [intOf]; omega
    · obtain rfl : j = q + 1 := by omega
      obtain ⟨Ac, ca, rfl, _⟩ := own_formT HO.out
      rw [Nat.add_sub_cancel] at HO HN HF
      have hall : rest.take q = rest := List.take_of_length_le (by rw [HQ.out]; exact Nat.le_refl _)
      have HOF : Hid (fltO (p0 :: rest) = some (cs, b)) := by
        show _ = _
        rw [fltO_some (HJ.out.2 (by omega)), ← hall, HN.out.1]; rfl
      have hcq := HN.out.2
      obtain ⟨A2, c2, e2, _, hrd, hnl⟩ := rd_ownN (n := cs.length) (by rw [hcq]; exact HO.out)
      injection e2 with e3 e4 e5
      subst e3; subst e5
      clear e4
      rw [hcq] at hrd hnl
      have HRD := Lib.hid hrd
      have HNLL := Lib.hid hnl
      have HFA := Lib.hid (ownFrom HO.out)
      obtain ⟨E, hE⟩ : ∃ E, fltE cs b = E := ⟨_, rfl⟩
      have HE := Lib.hid hE
      have HCQ := Lib.hid hcq
      have CC := Lib.hid (refFilterErr_any Ac q ca b cs wr hrd (by omega))
      rw [hE] at CC
      have q0 : wr.cell? ⟨gf, 0, none⟩ = some (.slice Ac q ca) := by rw [HF.out.cell]; rfl
      have q1 : wr.cell? ⟨gf, 1, none⟩ = some (.int .i64 b) := by rw [HF.out.cell]; rfl
      clear hall hrd hnl hE hcq HJ HN HO
      go_wp2_with fail
      refine CC.out.mono ?_
      rintro e w4 ⟨rfl, hb4⟩
      have B4 : Hid (Below gf w2 w4) := HB.out.trans (hb4.mono (Nat.le_of_lt hszr))
      have K4 := Lib.hid (HKR.out _ B4.out)
      have F4 : Hid (Bk w4 gf 29 (fRow (.slice Ac q ca) b)) := HF.out.later hb4
      have R4 := Lib.hid (HRD.out.below hb4)
      clear hb4 q0 q1 HB HF HRD CC
      have r0 : w4.cell? ⟨w.heap.size, 0, none⟩ = some (.slice none 0 0) := by rw [K4.out.cell]; rfl
      have r1 : w4.cell? ⟨w.heap.size, 1, none⟩ = some (.int .i64 0) := by rw [K4.out.cell]; rfl
      have f0 : w4.frozen? ⟨w.heap.size, 0, none⟩ = false := K4.out.frozen 0
      have f1 : w4.frozen? ⟨w.heap.size, 1, none⟩ = false := K4.out.frozen 1
      by_cases h0 : E = 0
      · have HR : Hid (fltR (fltO (p0 :: rest)) = ((cs, b), 0)) := by show _ = _; rw [HOF.out]; exact fltR_ok (HE.out.trans h0)
        subst h0
        have q0 : w4.cell? ⟨gf, 0, none⟩ = some (.slice Ac q ca) := by rw [F4.out.cell]; rfl
        have q1 : w4.cell? ⟨gf, 1, none⟩ = some (.int .i64 b) := by rw [F4.out.cell]; rfl
        go_wp2
        refine bodyPost_ret (v := .tuple #[.agg (fRow (.slice Ac q ca) b), .int .i64 0]) (by simp [results, Tryz.results14, go_sem, r0, r1, f0, f1]) rfl ?_
        have hfar : ∀ a, Ac = some a → 0 < q → a.block ≠ w.heap.size := fun a e _ => by have := HFA.out a e; omega
        exact fltOk (((HBW.out _ B4.out).setCell (Nat.le_refl _) _).setCell (Nat.le_refl _) _) HR.out HCQ.out (rdFar (rdFar R4.out ⟨w.heap.size, 0, none⟩ _ hfar) ⟨w.heap.size, 1, none⟩ _ hfar) HNLL.out
      · have HR : Hid (fltR (fltO (p0 :: rest)) = (([], 0), E)) := by show _ = _; rw [HOF.out, fltR_err (by rw [HE.out]; exact h0), HE.out]
        have hEn : (E != 0) = true := by simpa using h0
        clear h0
        go_wp2
        refine bodyPost_ret (v := .tuple #[.agg (fRow (.slice none 0 0) 0), .int .i64 E]) (by simp [results, Tryz.results14, go_sem, r0, r1, f0, f1]) rfl ?_
        exact fltErr (((HBW.out _ B4.out).setCell (Nat.le_refl _) _).setCell (Nat.le_refl _) _) HR.out
end Go.Proofs.YtjjflbnopphciacGreatDoor

namespace Go.Proofs.YtjjflbnopphciacGreatDoor
open Go.RowKit

theorem keepS {P Q : World → Prop} (h : ∀ W, Q W → P W) {W : World} (hq : Q W) : P W ∧ Q W := ⟨h W hq, hq⟩
theorem joinP_cons (x : Int) (xs : List Int) (h : xs ≠ []) : joinP (x :: xs) = Lib.itoa x ++ 32 :: joinP xs := by
  cases xs with
  | nil => exact absurd rfl h
  | cons y r => simp [joinP, Lib.join_cons, Lib.joinTail]
theorem rdOne (W : World) (g : Nat) (b : Int) (h : W.cell? ⟨g, 0, none⟩ = some (.int .i64 b)) : RdI W (some ⟨g, 0, none⟩) 1 [b] :=
  ⟨rfl, fun _ => ⟨_, rfl, World.block_lt_of_cell? _ _ h, fun j hj => (by
    have e : j = 0 := by omega
    subst e
    rw [addOff]
    exact h)⟩⟩
/-- The string of a filter. -/
def fltT (cs : List Int) (b : Int) : ByteArray := ⟨(joinP (b :: cs)).toArray⟩

set_option maxRecDepth 100000 in
set_option maxHeartbeats 8000000 in
theorem formatFilter_any (A : Option Addr) (n c : Nat) (cs : List Int) (b : Int) (w : World) (hl : LaidG w) (hr : RdI w A n cs) (hn : n ≤ 100) (hx : I64 cs) (hb64 : -9223372036854775808 ≤ b ∧ b ≤ 9223372036854775807) :
    Calls Tryz.prog 9 #[.agg #[.slice A n c, .int .i64 b]] w fun e w' => e = .returned (.string (fltT cs b)) ∧ Below w.heap.size w w' := by
  have hb1 : I64 [b] := fun x hx => by rw [List.mem_singleton.1 hx]; exact hb64
  obtain ⟨w1, hw1⟩ : ∃ W, w.alloc (.cells #[.slice A n c, .int .i64 b] 29) = W := ⟨_, rfl⟩
  have HB1 : Hid (Below w.heap.size w w1) := by show Below _ _ _; rw [← hw1]; exact (Below.refl _ _).alloc (Nat.le_refl _) _
  have K1 : Hid (Bk w1 w.heap.size 29 #[.slice A n c, .int .i64 b]) := by show Bk _ _ _ _; rw [← hw1]; exact Bk.new _ _ _
  have HW1 := Lib.hid hw1
  have HS1 : Hid (w1.heap.size = w.heap.size + 1) := by show _ = _; rw [← hw1]; simp
  have HLX : Hid (∀ W, Below w1.heap.size w1 W → LaidG W) := fun W hW => hl.later (HB1.out.trans (hW.mono HB1.out.size))
  have c0 : w1.cell? ⟨w.heap.size, 0, none⟩ = some (.slice A n c) := by rw [K1.out.cell]; rfl
  have c1 : w1.cell? ⟨w.heap.size, 1, none⟩ = some (.int .i64 b) := by rw [K1.out.cell]; rfl
  have hlen := hr.1
  by_cases h0 : n = 0
  · have hcs : cs = [] := List.eq_nil_of_length_eq_zero (by omega)
    have CJ1 : Hid (∀ W g, LaidG W → W.cell? ⟨g, 0, none⟩ = some (.int .i64 b) → Calls Tryz.prog 28 #[.slice (some ⟨g, 0, none⟩) 1 1] W fun e w' => e = .returned (.string (⟨(joinP [b]).toArray⟩ : ByteArray)) ∧ Below W.heap.size W w') := fun W g h1 h2 => joined_any _ 1 1 [b] W h1 (rdOne W g b h2) (by omega) hb1
    have HFT : Hid (fltT cs b = ⟨(joinP [b]).toArray⟩) := by show _ = _; rw [hcs]; rfl
    rw [HFT.out]
    obtain ⟨T, hT⟩ : ∃ T, (⟨(joinP [b]).toArray⟩ : ByteArray) = T := ⟨_, rfl⟩
    rw [hT] at CJ1 ⊢
    subst h0
    clear hw1 hr hl hcs hlen hT hx hb1
    go_enter Tryz.func9, Tryz.ntmps9
    go_wp2_with fail
    rw [show w.alloc (.cells #[.slice A 0 c, .int .i64 b] 29) = w1 from HW1.out]
    have cnew : (w1.alloc (.cells #[.int .i64 b] 3)).cell? ⟨w.heap.size + 1, 0, none⟩ = some (.int .i64 b) := by rw [← HS1.out, (Bk.new w1 3 #[.int .i64 b]).cell]; rfl
    refine (CJ1.out (w1.alloc (.cells #[.int .i64 b] 3)) (w.heap.size + 1) (HLX.out _ ((Below.refl _ _).alloc (Nat.le_refl _) _)) cnew).mono ?_
    rintro e w2 ⟨rfl, hb⟩
    have HB2 := Lib.hid (HB1.out.trans ((((Below.refl w1.heap.size w1).alloc (Nat.le_refl _) (.cells #[.int .i64 b] 3)).trans (hb.mono (by simp))).mono HB1.out.size))
    clear hb
    go_wp2
    go_ret
    exact ⟨rfl, HB2.out⟩
  · obtain ⟨m, rfl⟩ : ∃ m, n = m + 1 := ⟨n - 1, by omega⟩
    have hcs : cs ≠ [] := by rintro rfl; simp at hlen
    obtain ⟨T1, hT1⟩ : ∃ T, (⟨(joinP [b]).toArray⟩ : ByteArray) = T := ⟨_, rfl⟩
    obtain ⟨T2, hT2⟩ : ∃ T, (⟨(joinP cs).toArray⟩ : ByteArray) = T := ⟨_, rfl⟩
    have CJ1 : Hid (∀ W g, LaidG W → W.cell? ⟨g, 0, none⟩ = some (.int .i64 b) → Calls Tryz.prog 28 #[.slice (some ⟨g, 0, none⟩) 1 1] W fun e w' => e = .returned (.string T1) ∧ Below W.heap.size W w') := fun W g h1 h2 => by rw [← hT1]; exact joined_any _ 1 1 [b] W h1 (rdOne W g b h2) (by omega) hb1
    have CJ2 : Hid (∀ W, LaidG W → RdI W A (m + 1) cs → Calls Tryz.prog 28 #[.slice A (m + 1) c] W fun e w' => e = .returned (.string T2) ∧ Below W.heap.size W w') := fun W h1 h2 => by rw [← hT2]; exact joined_any A (m + 1) c cs W h1 h2 (by omega) hx
    have HRX : Hid (∀ W, Below w1.heap.size w1 W → RdI W A (m + 1) cs) := fun W hW => (hr.below HB1.out).below hW
    have HS : Hid (∀ W, Below w1.heap.size w1 W → W.cell? ⟨w.heap.size, 0, none⟩ = some (.slice A (m + 1) c) ∧ W.cell? ⟨w.heap.size, 1, none⟩ = some (.int .i64 b)) := fun W hW => by
      have hk := K1.out.later hW
      exact ⟨by rw [hk.cell]; rfl, by rw [hk.cell]; rfl⟩
    have hz1 : T1.size ≤ 21 := by
      rw [← hT1, bytes_size]
      have := joinP_len [b] hb1
      simpa using this
    have hz2 : T2.size ≤ 3000 := by
      rw [← hT2, bytes_size]
      have := joinP_len cs hx
      omega
    have HFIN : Hid (fltT cs b = T1 ++ (⟨#[32]⟩ : ByteArray) ++ T2) := by
      show _ = _
      unfold fltT
      rw [joinP_cons b cs hcs, ← hT1, ← hT2, joinP_one]
      apply ByteArray.ext; simp
    rw [HFIN.out]
    have z1 : ¬ 9223372036854775807 < T1.size + 1 := by omega
    have z2 : ¬ 9223372036854775807 < T1.size + 1 + T2.size := by omega
    have hm0 : ((m : Int) + 1 == 0) = false := by rw [beq_eq_false_iff_ne]; omega
    clear hw1 hr hl hcs hlen hT1 hT2 hx hb1 K1
    go_enter Tryz.func9, Tryz.ntmps9
    go_wp2_with fail
    rw [show w.alloc (.cells #[.slice A (m + 1) c, .int .i64 b] 29) = w1 from HW1.out]
    go_upto_region 3 with fail
    clear c0 c1
    refine wp_region_held_drew (S := (fun w' : World => (w'.cell? ⟨w.heap.size, 0, none⟩ = some (.slice A (m + 1) c) ∧ w'.cell? ⟨w.heap.size, 1, none⟩ = some (.int .i64 b)) ∧ Below w1.heap.size w1 w')) (by kernel_rfl) ?_ ?_
    · exact keepS HS.out (Below.refl w1.heap.size w1).drew
    intro hHeld
    refine wpAnyH_take (i := 0) (v := ?_) rfl (by kernel_rfl) (by kernel_rfl) (by kernel_rfl) (fun _ _ _ h => h) (Or.inl ⟨by rfl, ?_⟩) (by assumption) ?_
    rotate_left
    · intro w hSw; (try dsimp only at hSw); go_simp; (try (with_reducible rfl))
    try simp only [List.getElem_toArray, List.getElem_cons_succ, List.getElem_cons_zero, Act.put, List.setIfInBounds_toArray, List.set_cons_zero, List.set_cons_succ]
    refine wpAnyH_take (i := 1) (v := ?_) rfl (by kernel_rfl) (by kernel_rfl) (by kernel_rfl) (fun _ _ _ h => h) (Or.inl ⟨by rfl, ?_⟩) (by assumption) ?_
    rotate_left
    · intro w hSw; (try dsimp only at hSw); go_simp; (try (with_reducible rfl))
    try simp only [List.getElem_toArray, List.getElem_cons_succ, List.getElem_cons_zero, Act.put, List.setIfInBounds_toArray, List.set_cons_zero, List.set_cons_succ]
    refine wpAnyH_take (i := 5) (v := ?_) rfl (by kernel_rfl) (by kernel_rfl) (by kernel_rfl) (fun _ _ _ h => h) (Or.inl ⟨by rfl, ?_⟩) (by assumption) ?_
    rotate_left
    · intro w hSw; (try dsimp only at hSw); go_simp; (try (with_reducible rfl))
    try simp only [List.getElem_toArray, List.getElem_cons_succ, List.getElem_cons_zero, Act.put, List.setIfInBounds_toArray, List.set_cons_zero, List.set_cons_succ]
    refine wpAnyH_take (i := 6) (v := ?_) rfl (by kernel_rfl) (by kernel_rfl) (by kernel_rfl) (fun _ _ _ h => h) (Or.inl ⟨by rfl, ?_⟩) (by assumption) ?_
    rotate_left
    · intro w hSw; (try dsimp only at hSw); go_simp; (try (with_reducible rfl))
    try simp only [List.getElem_toArray, List.getElem_cons_succ, List.getElem_cons_zero, Act.put, List.setIfInBounds_toArray, List.set_cons_zero, List.set_cons_succ]
    refine wpAnyH_ready (rs := [2]) (by kernel_rfl) (by simp) ?_
    refine AllReadyH.cons rfl (fun K hK => ?_) AllReadyH.nil
    go_simp
    refine hK.out _ _ ?_ (fun hHeld => ?_)
    · clear hK K; refine keepS HS.out ?_; first | exact ((Below.refl w1.heap.size w1).alloc (Nat.le_refl _) _).drew
    clear hK K
    try simp only [List.getElem_toArray, List.getElem_cons_succ, List.getElem_cons_zero, Act.put, List.setIfInBounds_toArray, List.set_cons_zero, List.set_cons_succ]
    refine wpAnyH_ready (rs := [3]) (by kernel_rfl) (by simp) ?_
    refine AllReadyH.cons rfl (fun K hK => ?_) AllReadyH.nil
    go_simp
    go_at_call 28
    refine Calls.mono (CJ1.out _ _ (HLX.out _ (((Below.refl w1.heap.size w1).alloc (Nat.le_refl _) _).drew)) ?_) ?_
    · simp [go_sem]
    rintro e wa ⟨rfl, hb⟩
    have Hwa : Hid (Below w1.heap.size w1 wa) := ((((Below.refl w1.heap.size w1).alloc (Nat.le_refl _) _).drew)).trans (hb.mono ((((Below.refl w1.heap.size w1).alloc (Nat.le_refl _) _).drew)).size)
    clear hb
    go_wp2_with fail
    refine hK.out _ _ ?_ (fun hHeld => ?_)
    · clear hK K; refine keepS HS.out ?_; first | exact Hwa.out
    clear hK K
    try simp only [List.getElem_toArray, List.getElem_cons_succ, List.getElem_cons_zero, Act.put, List.setIfInBounds_toArray, List.set_cons_zero, List.set_cons_succ]
    refine wpAnyH_take (i := 4) (v := ?_) rfl (by kernel_rfl) (by kernel_rfl) (by kernel_rfl) (fun _ _ _ h => h) (Or.inl ⟨by rfl, ?_⟩) (by assumption) ?_
    rotate_left
    · intro w hSw; (try dsimp only at hSw); go_simp; (try (with_reducible rfl))
    try simp only [List.getElem_toArray, List.getElem_cons_succ, List.getElem_cons_zero, Act.put, List.setIfInBounds_toArray, List.set_cons_zero, List.set_cons_succ]
    refine wpAnyH_ready (rs := [7]) (by kernel_rfl) (by simp) ?_
    refine AllReadyH.cons rfl (fun K hK => ?_) AllReadyH.nil
    go_simp
    go_at_call 28
    refine (CJ2.out _ (HLX.out _ Hwa.out) (HRX.out _ Hwa.out)).mono ?_
    rintro e wb ⟨rfl, hb⟩
    have Hwb : Hid (Below w1.heap.size w1 wb) := (Hwa.out).trans (hb.mono (Hwa.out).size)
    clear hb
    go_wp2_with fail
    refine hK.out _ _ ?_ (fun hHeld => ?_)
    · clear hK K; refine keepS HS.out ?_; first | exact Hwb.out
    clear hK K
    try simp only [List.getElem_toArray, List.getElem_cons_succ, List.getElem_cons_zero, Act.put, List.setIfInBounds_toArray, List.set_cons_zero, List.set_cons_succ]
    refine wpAnyH_take (i := 8) (v := ?_) rfl (by kernel_rfl) (by kernel_rfl) (by kernel_rfl) (fun _ _ _ h => h) (Or.inl ⟨by rfl, ?_⟩) (by assumption) ?_
    rotate_left
    · intro w hSw; (try dsimp only at hSw); go_simp; (try (with_reducible rfl))
    try simp only [List.getElem_toArray, List.getElem_cons_succ, List.getElem_cons_zero, Act.put, List.setIfInBounds_toArray, List.set_cons_zero, List.set_cons_succ]
    refine wpAnyH_take (i := 9) (v := ?_) rfl (by kernel_rfl) (by kernel_rfl) (by kernel_rfl) (fun _ _ _ h => h) (Or.inl ⟨by rfl, ?_⟩) (by assumption) ?_
    rotate_left
    · intro w hSw; (try dsimp only at hSw); go_simp; (try (with_reducible rfl))
    try simp only [List.getElem_toArray, List.getElem_cons_succ, List.getElem_cons_zero, Act.put, List.setIfInBounds_toArray, List.set_cons_zero, List.set_cons_succ]
    refine wpAnyH_done (by kernel_rfl) ?_ _
    go_wp2_with fail
    go_ret
    exact ⟨rfl, HB1.out.trans (Hwb.out.mono HB1.out.size)⟩
end Go.Proofs.YtjjflbnopphciacGreatDoor

namespace Go.Proofs.YtjjflbnopphciacGreatDoor
open Go.RowKit

/-- Appending a slice that may be nil. -/
theorem wpList_append_both {P : Program} {w : World} {ops : Array Oper} {rest : List Oper} {o : Oper} {a : Act} {Q : Exit → Act → World → Prop} (hgd : o.guard = none) (s x : Operand) (t : TypeId)
    (ho : o.op = .call { callee := .builtin .append, args := #[s, x], argTypes := #[t, t] })
    (base : Nat) (e : TypeId) (i : TypeInfo) (z : Value) (size bytes : Nat) (ht : P.underlying t = some (.slice e)) (hi : P.info? e = some i) (hz : i.zero = some z)
    (hsize : i.size = size) (hby : i.bytes = bytes) (hzs : z.cells.size = size) (hsz : 0 < size)
    (v : Value) (n : Nat) (xs : List Value) (hs : a.eval s = v) (hown : w.ownsRow base e size v n xs)
    (A : Option Addr) (m c : Nat) (news : List Value) (hx : a.eval x = .slice A m c) (hA : A = none → m = 0 ∧ c = 0) (hl : news.length = m * size) (hnews : ∀ ad, A = some ad → ∀ j u, news[j]? = some u → w.cell? (ad.add j) = some u) (h1 : ∀ u ∈ news, u.oneCell' = true)
    (h63 : n + m ≤ maxLen) (hbytes : (n + m) * bytes ≤ 140737488355328) (hbase : base ≤ w.heap.size)
    (h : ∀ v' w', w'.ownsRow base e size v' (n + m) (xs ++ news) → w.grownBy w' v.ownBlock → (v' = .slice none 0 0 ↔ v = .slice none 0 0 ∧ m = 0) → wpList P ops Q rest (a.put o.dst v') w') : wpList P ops Q (o :: rest) a w := by
  cases A with
  | none =>
    obtain ⟨rfl, rfl⟩ := hA rfl
    have hn : news = [] := List.eq_nil_of_length_eq_zero (by rw [hl]; omega)
    subst hn
    refine wpList_append_own_none hgd s x t ho base e i size ht hi v n xs hs hown hx ?_
    refine h v w ?_ (World.grownBy.refl _ _) ⟨fun h => ⟨h, rfl⟩, fun h => h.1⟩
    rw [List.append_nil]
    exact hown
  | some ad => exact wpList_append_own w hgd s x t ho base e i z size bytes ht hi hz hsize hby hzs hsz v n xs hs hown ad m c news hx hl (hnews ad rfl) h1 h63 hbytes hbase h

set_option maxRecDepth 100000 in
set_option maxHeartbeats 8000000 in
theorem refFormatFilter_any (A : Option Addr) (n c : Nat) (cs : List Int) (b : Int) (w : World) (hA : A = none → n = 0 ∧ c = 0) (hr : RdI w A n cs) (hn : n ≤ 100) (hx : I64 cs) (hb64 : -9223372036854775808 ≤ b ∧ b ≤ 9223372036854775807) :
    Calls Tryz.prog 16 #[.agg #[.slice A n c, .int .i64 b]] w fun e w' => e = .returned (.string (fltT cs b)) ∧ Below w.heap.size w w' := by
  obtain ⟨i0, hi0, hz0, hz1, hz2⟩ := info_parts intInfo'
  have hbx : I64 (b :: cs) := fun x hx2 => by
    rcases List.mem_cons.1 hx2 with rfl | h
    · exact hb64
    · exact hx x h
  obtain ⟨w1, hw1⟩ : ∃ W, w.alloc (.cells #[.slice A n c, .int .i64 b] 29) = W := ⟨_, rfl⟩
  have HB1 : Hid (Below w.heap.size w w1) := by show Below _ _ _; rw [← hw1]; exact (Below.refl _ _).alloc (Nat.le_refl _) _
  have K1 : Hid (Bk w1 w.heap.size 29 #[.slice A n c, .int .i64 b]) := by show Bk _ _ _ _; rw [← hw1]; exact Bk.new _ _ _
  have HS1 : Hid (w1.heap.size = w.heap.size + 1) := by show _ = _; rw [← hw1]; simp
  have HW1 := Lib.hid hw1
  have hlen : cs.length = n := hr.1
  obtain ⟨w2, hw2⟩ : ∃ W, w1.alloc (.cells #[.int .i64 b] 3) = W := ⟨_, rfl⟩
  have HB2 : Hid (Below w1.heap.size w1 w2) := by show Below _ _ _; rw [← hw2]; exact (Below.refl _ _).alloc (Nat.le_refl _) _
  have ho2 : w2.ownsRow w1.heap.size 3 1 (.slice (some ⟨w1.heap.size, 0, none⟩) 1 1) 1 [.int .i64 b] := by
    have := World.ownsRow_lit (base := w1.heap.size) (e := 3) (size := 1) w1 #[.int .i64 b] 1 (Nat.le_refl _) (by unfold maxLen; omega) rfl
    rw [hw2] at this
    exact this
  have K2 : Hid (Bk w2 w.heap.size 29 #[.slice A n c, .int .i64 b]) := K1.out.later HB2.out
  have c0 : w1.cell? ⟨w.heap.size, 0, none⟩ = some (.slice A n c) := by rw [K1.out.cell]; rfl
  have c1 : w1.cell? ⟨w.heap.size, 1, none⟩ = some (.int .i64 b) := by rw [K1.out.cell]; rfl
  have d0 : w2.cell? ⟨w.heap.size, 0, none⟩ = some (.slice A n c) := by rw [K2.out.cell]; rfl
  have HW2 := Lib.hid hw2
  have HO2 := Lib.hid ho2
  have HR2 := Lib.hid ((hr.below HB1.out).below HB2.out)
  have hnews : Hid (∀ ad, A = some ad → ∀ j u, (cs.map (Value.int .i64))[j]? = some u → w2.cell? (ad.add j) = some u) := by
    intro ad e j u hu
    have hj : j < cs.length := by
      have := (List.getElem?_eq_some_iff.1 hu).1
      simpa using this
    obtain ⟨ad', e', hlt, hc⟩ := HR2.out.2 (by omega)
    rw [e] at e'; cases e'
    rw [hc j (by omega)]
    rw [List.getElem?_map, List.getElem?_eq_getElem hj] at hu
    simp at hu
    rw [← hu]
    simp [List.getD_eq_getElem?_getD, List.getElem?_eq_getElem hj]
  have hone : Hid (∀ u ∈ cs.map (Value.int .i64), u.oneCell' = true) := by
    intro u hu
    obtain ⟨x, _, rfl⟩ := List.mem_map.1 hu
    rfl
  have HLM : Hid ((cs.map (Value.int .i64)).length = n * 1) := by show _ = _; rw [List.length_map]; omega
  have HA := Lib.hid hA
  obtain ⟨T, hT⟩ : ∃ T, fltT cs b = T := ⟨_, rfl⟩
  have CW : Hid (∀ A' c' W, RdI W A' (n + 1) (b :: cs) → Calls Tryz.prog 41 #[.slice A' (n + 1) c'] W fun e w' => e = .returned (.string T) ∧ Below W.heap.size W w') := fun A' c' W h => by
    rw [← hT]
    exact join_any A' (n + 1) c' (b :: cs) W h (by omega) hbx (by rw [List.length_cons, hlen])
  obtain ⟨news, hnw⟩ : ∃ l, cs.map (Value.int .i64) = l := ⟨_, rfl⟩
  have HNW := Lib.hid hnw
  have HLN := Lib.hid hlen
  rw [hnw] at hnews hone HLM
  rw [hT]
  clear hw1 hw2 hr hx hb64 hbx hT hnw hlen hA ho2 K1 K2
  go_enter Tryz.func16, Tryz.ntmps16
  go_upto_region 1 with (fail)
  rw [show w.alloc (.cells #[.slice A n c, .int .i64 b] 29) = w1 from HW1.out]
  have hbuild : ∀ W, W = w1 → W.alloc (.cells #[.int .i64 b] 3) = w2 := fun W e => by rw [e]; exact HW2.out
  go_wp2_with (at_builtin; (try rw [HW2.out]); refine wpList_append_both rfl (.tmp 5) (.tmp 7) 27 rfl w1.heap.size 3 i0 _ 1 8 Tryz.underlying27 hi0 hz0 hz1 hz2 rfl (by decide) _ _ _ rfl HO2.out A n c news rfl HA.out HLM.out hnews.out hone.out (by unfold maxLen; omega) (by omega) HB2.out.size ?_)
  intro v' w3 hown hgrow _
  have HB3 : Hid (Below w1.heap.size w1 w3) := HB2.out.grown hgrow HB2.out.size (fun z e => (HO2.out.lt z e).1)
  have hl2 : (b :: cs).length = n + 1 := by rw [List.length_cons, HLN.out]
  have hown2 : w3.ownsRow w1.heap.size 3 1 v' (b :: cs).length ((b :: cs).map (Value.int .i64)) := by
    rw [hl2, List.map_cons, HNW.out, Nat.add_comm]
    exact hown
  obtain ⟨A3, c3, rfl, _, hrd, _⟩ := rd_ownN hown2
  rw [hl2] at hrd ⊢
  have HRD := Lib.hid hrd
  clear hown hgrow hown2 hrd hl2 c1 d0
  go_wp2_with fail
  refine (CW.out _ _ _ HRD.out).mono ?_
  rintro e w4 ⟨rfl, hb⟩
  have HB4 := Lib.hid (HB1.out.trans ((HB3.out.trans (hb.mono HB3.out.size)).mono HB1.out.size))
  clear hb
  go_wp2
  go_ret
  exact ⟨rfl, HB4.out⟩
end Go.Proofs.YtjjflbnopphciacGreatDoor

