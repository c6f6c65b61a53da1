import Derived.Test.YtepcciodhppbnaaQ7
import Derived.Test.YtepcciodhppbnaaE70

namespace Go.Proofs.Ytepcciodhppbnaa
open Go.RowKit

/-! ### the positions ascend -/
theorem posLo_eq {x1 x2 y1 y2 t : Int} (hy : x2 < y2) : posLo x1 x2 y1 y2 t = 64 * posP x1 x2 y1 t / (y2 - x2) + 64 * x1 := by
  unfold posLo
  generalize posP x1 x2 y1 t = P
  have hD : 0 < y2 - x2 := by omega
  generalize y2 - x2 = D at hD
  have e : 64 * P = 64 * (P % D) + (64 * (P / D)) * D := by
    have h := Int.mul_ediv_add_emod P D
    have h2 : (64 * (P / D)) * D = 64 * (D * (P / D)) := by rw [Int.mul_assoc, Int.mul_comm (P / D) D]
    omega
  rw [e, Int.add_mul_ediv_right _ _ (by omega)]
  omega
theorem posLo_mono {x1 x2 y1 y2 t u : Int} (hx : x1 < y1) (hy : x2 < y2) (h : t ≤ u) : posLo x1 x2 y1 y2 t ≤ posLo x1 x2 y1 y2 u := by
  rw [posLo_eq hy, posLo_eq hy]
  have h1 : posP x1 x2 y1 t ≤ posP x1 x2 y1 u := Int.mul_le_mul_of_nonneg_left (by omega) (by omega)
  have h2 : 64 * posP x1 x2 y1 t / (y2 - x2) ≤ 64 * posP x1 x2 y1 u / (y2 - x2) := Int.ediv_le_ediv (by omega) (by omega)
  omega
theorem posLo_start {x1 x2 y1 y2 : Int} (hy : x2 < y2) : posLo x1 x2 y1 y2 x2 = 64 * x1 := by
  rw [posLo_eq hy]
  unfold posP
  simp
theorem posLo_end {x1 x2 y1 y2 : Int} (hy : x2 < y2) : posLo x1 x2 y1 y2 y2 = 64 * y1 := by
  rw [posLo_eq hy]
  unfold posP
  rw [← Int.mul_assoc, Int.mul_ediv_cancel _ (by omega)]
  omega
theorem nodes_pos_le {ns : List (Int × Int)} (hok : nodesOk ns) : ∀ (k j : Nat), j + k < ns.length → (ns.getD j (0, 0)).1 ≤ (ns.getD (j + k) (0, 0)).1
  | 0, j, _ => Int.le_refl _
  | k + 1, j, h => by
    have h1 := nodes_pos_le hok k j (by omega)
    have h2 := hok (j + k) (by omega)
    have : j + (k + 1) = j + k + 1 := by omega
    rw [this]
    omega
theorem posR_mono {t u : Int} {ns : List (Int × Int)} (hE : (mapR ns).2 = 0) (h0 : (ns.getD 0 (0, 0)).2 ≤ t) (htu : t ≤ u) (h1 : u ≤ (ns.getD (ns.length - 1) (0, 0)).2) : (posR t ns).1 ≤ (posR u ns).1 := by
  obtain ⟨hok, hl2, hl20⟩ := mapR_ok hE
  obtain ⟨p, hp, hb, ha, hc⟩ := first_piece (t := t) (ns := ns) (ns.length - 1) (by omega) (by omega) h0 (by omega)
  obtain ⟨r, hr, rb, ra, rc⟩ := first_piece (t := u) (ns := ns) (ns.length - 1) (by omega) (by omega) (by omega) h1
  rw [posR_at hE (by omega) hb ha hc, posR_at hE (by omega) rb ra rc]
  have kp := hok p (by omega)
  have kr := hok r (by omega)
  show posLo _ _ _ _ _ ≤ posLo _ _ _ _ _
  by_cases hpr : p = r
  · subst hpr
    exact posLo_mono kp.1.2.1 kp.2.2.1 htu
  · by_cases hlt : p < r
    · have e1 := posLo_mono (t := t) (u := (ns.getD (p + 1) (0, 0)).2) kp.1.2.1 kp.2.2.1 hc
      have e2 := posLo_mono (t := (ns.getD r (0, 0)).2) (u := u) kr.1.2.1 kr.2.2.1 ra
      rw [posLo_end kp.2.2.1] at e1
      rw [posLo_start kr.2.2.1] at e2
      have e3 := nodes_pos_le hok (r - (p + 1)) (p + 1) (by omega)
      rw [show p + 1 + (r - (p + 1)) = r by omega] at e3
      omega
    · exfalso
      have h2 := hb r (by omega)
      omega
theorem opR0_mono {n q : Int} (hn : 1 ≤ n) (hq : 1 ≤ q) (k : Nat) : (opR0 n q k).1 ≤ (opR0 n q (k + 1)).1 := by
  show 64 * (k : Int) * n / q ≤ 64 * ((k + 1 : Nat) : Int) * n / q
  exact Int.ediv_le_ediv (by omega) (Int.mul_le_mul_of_nonneg_right (by omega) (by omega))
theorem opR1_mono {s : Int} {ns : List (Int × Int)} (hE : (mapR ns).2 = 0) (hs : 1 ≤ s) (k : Nat) (h2 : (opR1 s ns (k + 1)).2 = 0) : (opR1 s ns k).1 ≤ (opR1 s ns (k + 1)).1 := by
  obtain ⟨hok, hl2, hl20⟩ := mapR_ok hE
  have e : ((k + 1 : Nat) : Int) * s = (k : Int) * s + s := by
    rw [show ((k + 1 : Nat) : Int) = (k : Int) + 1 by omega, Int.add_mul, Int.one_mul]
  have h0 : 0 ≤ (k : Int) * s := Int.mul_nonneg (by omega) (by omega)
  unfold opR1 at h2 ⊢
  simp only at h2 ⊢
  refine posR_mono hE (by omega) (by omega) ?_
  refine Classical.byContradiction fun h => ?_
  rw [posR_past hE (fun i hi => by
    have := nodes_le hok (ns.length - 1 - (i + 1)) (i + 1) (by omega)
    rw [show i + 1 + (ns.length - 1 - (i + 1)) = ns.length - 1 by omega] at this
    omega)] at h2
  cases h2
theorem stopAt_good (opv : Nat → Int × Int) (last : Int) : ∀ (k f i : Nat), k ≤ i → i < stopAt opv last k f → goodAt opv last i
  | k, 0, i, h1, h2 => by unfold stopAt at h2; omega
  | k, f + 1, i, h1, h2 => by
    unfold stopAt at h2
    by_cases hg : goodAt opv last k
    · rw [if_pos hg] at h2
      by_cases hk : k = i
      · subst hk; exact hg
      · exact stopAt_good opv last (k + 1) f i (by omega) h2
    · rw [if_neg hg] at h2; omega
theorem posOut_asc {opv : Nat → Int × Int} {last : Int} (hm : ∀ k, (opv (k + 1)).2 = 0 → (opv k).1 ≤ (opv (k + 1)).1) (i : Nat) (hi : i + 1 < (posOut opv last).1.length) : (posOut opv last).1.getD i 0 ≤ (posOut opv last).1.getD (i + 1) 0 := by
  by_cases h : stopAt opv last 0 2001 = 2001
  · exfalso
    unfold posOut at hi
    rw [if_pos h] at hi
    simp at hi
  · have e : (posOut opv last).1 = (List.range (stopAt opv last 0 2001)).map (fun k => (opv k).1) := by
      unfold posOut; rw [if_neg h]
    rw [e] at hi ⊢
    have hi2 : i + 1 < stopAt opv last 0 2001 := by simpa using hi
    have hg := stopAt_good opv last 0 2001 (i + 1) (by omega) hi2
    have e1 : ∀ j, j < stopAt opv last 0 2001 → ((List.range (stopAt opv last 0 2001)).map (fun k => (opv k).1)).getD j 0 = (opv j).1 := fun j hj => by
      simp [List.getD_eq_getElem?_getD, List.getElem?_range hj]
    rw [e1 i (by omega), e1 (i + 1) hi2]
    exact hm i hg.1
/-! ### outputs lie between their samples -/
def lastN (n : Nat) (p : Int) : Nat := clmp n (p / 64)
theorem out1_between {xs : List Int} {p : Int} (hp : 0 ≤ p) (hx : ∀ x ∈ xs, -32767 ≤ x ∧ x ≤ 32767) {a b lo hi : Int} (ha : xs.getD (clmp xs.length (p / 64)) 0 = a) (hb : xs.getD (clmp xs.length (p / 64 + 1)) 0 = b)
    (hlo : lo = if 0 < p % 64 then min a b else a) (hhi : hi = if 0 < p % 64 then max a b else a) : lo ≤ outF 1 xs p ∧ outF 1 xs p ≤ hi := by
  have ba := getD_bd (xs := xs) (A := 32767) (by omega) hx (clmp xs.length (p / 64))
  have bb := getD_bd (xs := xs) (A := 32767) (by omega) hx (clmp xs.length (p / 64 + 1))
  rw [ha] at ba
  rw [hb] at bb
  have e : vnum1 xs p = (64 - p % 64) * a + (p % 64) * b := by
    unfold vnum1
    have e0 : clmp xs.length (p / 64 + ((0 : Nat) : Int)) = clmp xs.length (p / 64) := by rw [show p / 64 + ((0 : Nat) : Int) = p / 64 by omega]
    have e1 : clmp xs.length (p / 64 + ((1 : Nat) : Int)) = clmp xs.length (p / 64 + 1) := rfl
    simp only [vsum, e0, e1, wts1, ha, hb]
    simp
  unfold outF
  rw [if_pos rfl]
  unfold outV
  rw [e]
  generalize hf : p % 64 = f at *
  have hfb : 0 ≤ f ∧ f < 64 := by omega
  by_cases h0 : 0 < f
  · rw [if_pos h0] at hlo hhi
    have h1 : (64 - f) * lo ≤ (64 - f) * a := Int.mul_le_mul_of_nonneg_left (by omega) (by omega)
    have h2 : f * lo ≤ f * b := Int.mul_le_mul_of_nonneg_left (by omega) (by omega)
    have h3 : (64 - f) * a ≤ (64 - f) * hi := Int.mul_le_mul_of_nonneg_left (by omega) (by omega)
    have h4 : f * b ≤ f * hi := Int.mul_le_mul_of_nonneg_left (by omega) (by omega)
    have e3 : (64 - f) * lo + f * lo = 64 * lo := by rw [← Int.add_mul]; congr 1; omega
    have e4 : (64 - f) * hi + f * hi = 64 * hi := by rw [← Int.add_mul]; congr 1; omega
    generalize (64 - f) * a = u at *
    generalize f * b = v at *
    omega
  · rw [if_neg h0] at hlo hhi
    obtain rfl : f = 0 := by omega
    simp only [Int.sub_zero, Int.zero_mul, Int.add_zero]
    omega
def sumAbs3 (f : Int) : Int := absF ((wts3 f).getD 0 0) + absF ((wts3 f).getD 1 0) + absF ((wts3 f).getD 2 0) + absF ((wts3 f).getD 3 0)
theorem sumAbs3_all : ∀ f : Fin 64, sumAbs3 (f.val : Int) ≤ 1966080 := by decide +kernel
theorem sumAbs3_le {f : Int} (h : 0 ≤ f ∧ f ≤ 63) : sumAbs3 f ≤ 1966080 := by
  have := sumAbs3_all ⟨f.toNat, by omega⟩
  simpa [show ((f.toNat : Nat) : Int) = f by omega] using this
theorem absMul {w x M : Int} (h : -M ≤ x ∧ x ≤ M) : -(absF w * M) ≤ w * x ∧ w * x ≤ absF w * M := by
  have hM : 0 ≤ M := by omega
  unfold absF
  split
  · have h1 : -w * -M ≤ -w * x := Int.mul_le_mul_of_nonneg_left (by omega) (by omega)
    have h2 : -w * x ≤ -w * M := Int.mul_le_mul_of_nonneg_left (by omega) (by omega)
    simp only [Int.neg_mul, Int.mul_neg] at h1 h2 ⊢
    omega
  · have h1 : w * -M ≤ w * x := Int.mul_le_mul_of_nonneg_left (by omega) (by omega)
    have h2 : w * x ≤ w * M := Int.mul_le_mul_of_nonneg_left (by omega) (by omega)
    simp only [Int.mul_neg] at h1
    omega
theorem out3_bd {xs : List Int} {p M : Int} (hp : 0 ≤ p) (hM : ∀ j : Nat, j < 4 → -M ≤ xs.getD (clmp xs.length (p / 64 - 1 + (j : Int))) 0 ∧ xs.getD (clmp xs.length (p / 64 - 1 + (j : Int))) 0 ≤ M) : 4 * absF (outF 3 xs p) ≤ 5 * M + 4 := by
  have hs := sumAbs3_le (f := p % 64) (by omega)
  have m0 := absMul (w := (wts3 (p % 64)).getD 0 0) (hM 0 (by omega))
  have m1 := absMul (w := (wts3 (p % 64)).getD 1 0) (hM 1 (by omega))
  have m2 := absMul (w := (wts3 (p % 64)).getD 2 0) (hM 2 (by omega))
  have m3 := absMul (w := (wts3 (p % 64)).getD 3 0) (hM 3 (by omega))
  have hM0 : 0 ≤ M := by have := hM 0 (by omega); omega
  have e : vnum3 xs p = (wts3 (p % 64)).getD 0 0 * xs.getD (clmp xs.length (p / 64 - 1 + ((0 : Nat) : Int))) 0 + (wts3 (p % 64)).getD 1 0 * xs.getD (clmp xs.length (p / 64 - 1 + ((1 : Nat) : Int))) 0 + (wts3 (p % 64)).getD 2 0 * xs.getD (clmp xs.length (p / 64 - 1 + ((2 : Nat) : Int))) 0 + (wts3 (p % 64)).getD 3 0 * xs.getD (clmp xs.length (p / 64 - 1 + ((3 : Nat) : Int))) 0 := by
    unfold vnum3
    simp only [vsum]
    omega
  have hsm : sumAbs3 (p % 64) * M ≤ 1966080 * M := Int.mul_le_mul_of_nonneg_right hs hM0
  have hse : sumAbs3 (p % 64) * M = absF ((wts3 (p % 64)).getD 0 0) * M + absF ((wts3 (p % 64)).getD 1 0) * M + absF ((wts3 (p % 64)).getD 2 0) * M + absF ((wts3 (p % 64)).getD 3 0) * M := by
    unfold sumAbs3
    rw [Int.add_mul, Int.add_mul, Int.add_mul]
  have hv : -(1966080 * M) ≤ vnum3 xs p ∧ vnum3 xs p ≤ 1966080 * M := by
    rw [e]
    generalize absF ((wts3 (p % 64)).getD 0 0) * M = q0 at *
    generalize absF ((wts3 (p % 64)).getD 1 0) * M = q1 at *
    generalize absF ((wts3 (p % 64)).getD 2 0) * M = q2 at *
    generalize absF ((wts3 (p % 64)).getD 3 0) * M = q3 at *
    omega
  unfold outF
  rw [if_neg (by decide)]
  unfold outV absF
  generalize vnum3 xs p = v at *
  split <;> omega

end Go.Proofs.Ytepcciodhppbnaa


namespace Go.Proofs.Ytepcciodhppbnaa
open Go.RowKit

/-- The greatest size of the first samples around a position; the ends. -/
def mxJ (V : Nat → Int) : Nat → Int
  | 0 => 0
  | j + 1 => if mxJ V j < absF (V j) then absF (V j) else mxJ V j
def loJ (V : Nat → Int) (x0 f : Int) : Nat → Int
  | 0 => x0
  | j + 1 => if j = 2 ∧ 0 < f then (if V j < loJ V x0 f j then V j else loJ V x0 f j) else loJ V x0 f j
def hiJ (V : Nat → Int) (x0 f : Int) : Nat → Int
  | 0 => x0
  | j + 1 => if j = 2 ∧ 0 < f then (if hiJ V x0 f j < V j then V j else hiJ V x0 f j) else hiJ V x0 f j
theorem mxJ_bd {V : Nat → Int} (hV : ∀ j, -32767 ≤ V j ∧ V j ≤ 32767) : ∀ j, 0 ≤ mxJ V j ∧ mxJ V j ≤ 32767
  | 0 => by simp [mxJ]
  | j + 1 => by
    have ih := mxJ_bd hV j
    have h := hV j
    unfold mxJ absF
    split <;> split <;> omega
theorem mxJ_ge {V : Nat → Int} : ∀ j i, i < j → absF (V i) ≤ mxJ V j
  | 0, i, h => absurd h (by omega)
  | j + 1, i, h => by
    unfold mxJ
    by_cases hi : i = j
    · subst hi; split <;> omega
    · have ih := mxJ_ge (V := V) j i (by omega)
      split <;> omega
theorem loJ4 (V : Nat → Int) (x0 f : Int) : loJ V x0 f 4 = if 0 < f then min x0 (V 2) else x0 := by
  simp only [loJ]
  by_cases h : 0 < f
  · simp [h]; omega
  · simp [h]
theorem hiJ4 (V : Nat → Int) (x0 f : Int) : hiJ V x0 f 4 = if 0 < f then max x0 (V 2) else x0 := by
  simp only [hiJ]
  by_cases h : 0 < f
  · simp [h]; omega
  · simp [h]
theorem loJ_bd {V : Nat → Int} {x0 f : Int} (hV : ∀ j, -32767 ≤ V j ∧ V j ≤ 32767) (h0 : -32767 ≤ x0 ∧ x0 ≤ 32767) : ∀ j, -32767 ≤ loJ V x0 f j ∧ loJ V x0 f j ≤ 32767
  | 0 => h0
  | j + 1 => by
    have ih := loJ_bd (f := f) hV h0 j
    have h := hV j
    unfold loJ
    split
    · split <;> omega
    · omega
theorem hiJ_bd {V : Nat → Int} {x0 f : Int} (hV : ∀ j, -32767 ≤ V j ∧ V j ≤ 32767) (h0 : -32767 ≤ x0 ∧ x0 ≤ 32767) : ∀ j, -32767 ≤ hiJ V x0 f j ∧ hiJ V x0 f j ≤ 32767
  | 0 => h0
  | j + 1 => by
    have ih := hiJ_bd (f := f) hV h0 j
    have h := hV j
    unfold hiJ
    split
    · split <;> omega
    · omega
/-- The samples around a position. -/
def arnd (xs : List Int) (p : Int) (j : Nat) : Int := xs.getD (clmp xs.length (p / 64 - 1 + (j : Int))) 0
theorem arnd_bd {xs : List Int} (hx : ∀ x ∈ xs, -32767 ≤ x ∧ x ≤ 32767) (p : Int) (j : Nat) : -32767 ≤ arnd xs p j ∧ arnd xs p j ≤ 32767 := getD_bd (by omega) hx _
theorem btw_one {xs : List Int} {p : Int} (hp : 0 ≤ p) (hx : ∀ x ∈ xs, -32767 ≤ x ∧ x ≤ 32767) : (loJ (arnd xs p) (arnd xs p 1) (p % 64) 4 ≤ outF 1 xs p ∧ outF 1 xs p ≤ hiJ (arnd xs p) (arnd xs p 1) (p % 64) 4) ∧ 4 * absF (outF 1 xs p) ≤ 5 * mxJ (arnd xs p) 4 + 4 := by
  have ha : xs.getD (clmp xs.length (p / 64)) 0 = arnd xs p 1 := by unfold arnd; rw [show p / 64 - 1 + ((1 : Nat) : Int) = p / 64 by omega]
  have hb : xs.getD (clmp xs.length (p / 64 + 1)) 0 = arnd xs p 2 := by unfold arnd; rw [show p / 64 - 1 + ((2 : Nat) : Int) = p / 64 + 1 by omega]
  have h := out1_between hp hx ha hb (loJ4 (arnd xs p) (arnd xs p 1) (p % 64)) (hiJ4 (arnd xs p) (arnd xs p 1) (p % 64))
  have g1 := mxJ_ge (V := arnd xs p) 4 1 (by omega)
  have g2 := mxJ_ge (V := arnd xs p) 4 2 (by omega)
  refine ⟨h, ?_⟩
  rw [loJ4, hiJ4] at h
  generalize mxJ (arnd xs p) 4 = M at *
  generalize arnd xs p 1 = a at *
  generalize arnd xs p 2 = b at *
  generalize outF 1 xs p = y at *
  unfold absF at *
  by_cases hf : 0 < p % 64
  · rw [if_pos hf, if_pos hf] at h
    split at g1 <;> split at g2 <;> split <;> omega
  · rw [if_neg hf, if_neg hf] at h
    split at g1 <;> split at g2 <;> split <;> omega
theorem btw_three {xs : List Int} {p : Int} (hp : 0 ≤ p) : 4 * absF (outF 3 xs p) ≤ 5 * mxJ (arnd xs p) 4 + 4 :=
  out3_bd hp (fun j hj => absF_le.1 (mxJ_ge (V := arnd xs p) 4 j hj))
set_option maxRecDepth 100000 in
set_option maxHeartbeats 4000000 in
theorem btw_far (k d n q s : Int) (A : Option Addr) (m c : Nat) (ns : List (Int × Int)) (B : Option Addr) (nn cb : Nat) (xs : List Int) (w : World) (hm : ¬ m ≤ 22) (hr : RdP w A m ns) (hx : RdI w B nn xs) (hA : A = none → m = 0 ∧ c = 0) (hB : B = none → nn = 0 ∧ cb = 0) (hn0 : nn ≤ 9223372036854775807)
    : Calls Try.prog 5 #[.agg #[.int .i64 k, .int .i64 d, .int .i64 n, .int .i64 q, .int .i64 s, .slice A m c], .slice B nn cb] w fun e w' => e = .returned (.bool true) ∧ Below w.heap.size w w' := by
  have CFw := Lib.hid (fun W => few_any A m c W)
  rw [decide_eq_false hm] at CFw
  have X0 := Lib.hid (hr.below (below1 w (.cells #[.int .i64 k, .int .i64 d, .int .i64 n, .int .i64 q, .int .i64 s, .slice A m c] 26)))
  have Y0 := Lib.hid (hx.below (below1 w (.cells #[.int .i64 k, .int .i64 d, .int .i64 n, .int .i64 q, .int .i64 s, .slice A m c] 26)))
  have K0 := Lib.hid (Bk.new w 26 #[.int .i64 k, .int .i64 d, .int .i64 n, .int .i64 q, .int .i64 s, .slice A m c])
  have B0 := Lib.hid (below1 w (.cells #[.int .i64 k, .int .i64 d, .int .i64 n, .int .i64 q, .int .i64 s, .slice A m c] 26))
  clear hr hx hA hB
  go_enter Try.func5, Try.ntmps5
  go_wp2_with fail
  refine (awake_any _).mono ?_
  rintro e w1 ⟨rfl, hb⟩
  have X1 := Lib.hid (X0.out.below hb)
  have Y1 := Lib.hid (Y0.out.below hb)
  have K1 := Lib.hid (K0.out.later hb)
  have B1 := Lib.hid (B0.out.trans (hb.mono B0.out.size))
  clear X0 Y0 K0 B0 hb
  obtain ⟨c0, c1, c2, c3, c4, c5⟩ := bk6 K1.out
  go_wp2_with fail
  refine (CFw.out _).mono ?_
  rintro e w2 ⟨rfl, hb⟩
  have X2 := Lib.hid (X1.out.below hb)
  have Y2 := Lib.hid (Y1.out.below hb)
  have K2 := Lib.hid (K1.out.later hb)
  have B2 := Lib.hid (B1.out.trans (hb.mono B1.out.size))
  clear X1 Y1 K1 B1 hb
  clear c0 c1 c2 c3 c4 c5
  go_wp2
  go_ret
  exact ⟨by simp, B2.out⟩
set_option maxRecDepth 100000 in
set_option maxHeartbeats 4000000 in
theorem btw_L (k d n q s : Int) (A : Option Addr) (m c : Nat) (ns : List (Int × Int)) (B : Option Addr) (nn cb : Nat) (xs : List Int) (w : World) (hm : m ≤ 22) (h : 64 < nn) (hr : RdP w A m ns) (hx : RdI w B nn xs) (hA : A = none → m = 0 ∧ c = 0) (hB : B = none → nn = 0 ∧ cb = 0) (hn0 : nn ≤ 9223372036854775807)
    : Calls Try.prog 5 #[.agg #[.int .i64 k, .int .i64 d, .int .i64 n, .int .i64 q, .int .i64 s, .slice A m c], .slice B nn cb] w fun e w' => e = .returned (.bool true) ∧ Below w.heap.size w w' := by
  have CFw := Lib.hid (fun W => few_any A m c W)
  rw [decide_eq_true hm] at CFw
  have h64 : (64 : Int) < (nn : Int) := by omega
  have X0 := Lib.hid (hr.below (below1 w (.cells #[.int .i64 k, .int .i64 d, .int .i64 n, .int .i64 q, .int .i64 s, .slice A m c] 26)))
  have Y0 := Lib.hid (hx.below (below1 w (.cells #[.int .i64 k, .int .i64 d, .int .i64 n, .int .i64 q, .int .i64 s, .slice A m c] 26)))
  have K0 := Lib.hid (Bk.new w 26 #[.int .i64 k, .int .i64 d, .int .i64 n, .int .i64 q, .int .i64 s, .slice A m c])
  have B0 := Lib.hid (below1 w (.cells #[.int .i64 k, .int .i64 d, .int .i64 n, .int .i64 q, .int .i64 s, .slice A m c] 26))
  clear hr hx hA hB
  go_enter Try.func5, Try.ntmps5
  go_wp2_with fail
  refine (awake_any _).mono ?_
  rintro e w1 ⟨rfl, hb⟩
  have X1 := Lib.hid (X0.out.below hb)
  have Y1 := Lib.hid (Y0.out.below hb)
  have K1 := Lib.hid (K0.out.later hb)
  have B1 := Lib.hid (B0.out.trans (hb.mono B0.out.size))
  clear X0 Y0 K0 B0 hb
  obtain ⟨c0, c1, c2, c3, c4, c5⟩ := bk6 K1.out
  go_wp2_with fail
  refine (CFw.out _).mono ?_
  rintro e w2 ⟨rfl, hb⟩
  have X2 := Lib.hid (X1.out.below hb)
  have Y2 := Lib.hid (Y1.out.below hb)
  have K2 := Lib.hid (K1.out.later hb)
  have B2 := Lib.hid (B1.out.trans (hb.mono B1.out.size))
  clear X1 Y1 K1 B1 hb
  clear c0 c1 c2 c3 c4 c5
  go_wp2
  go_ret
  exact ⟨by simp, B2.out⟩
set_option maxRecDepth 100000 in
set_option maxHeartbeats 4000000 in
theorem btw_D (k d n q s : Int) (A : Option Addr) (m c : Nat) (ns : List (Int × Int)) (B : Option Addr) (nn cb : Nat) (xs : List Int) (w : World) (hm : m ≤ 22) (h : nn ≤ 64) (D : Int) (hD : ¬ D = 0) (hr : RdP w A m ns) (hx : RdI w B nn xs) (hA : A = none → m = 0 ∧ c = 0) (hB : B = none → nn = 0 ∧ cb = 0) (hn0 : nn ≤ 9223372036854775807)
    (CRe : ∀ W, RdP W A m ns → Calls Try.prog 16 #[.agg #[.int .i64 k, .int .i64 d, .int .i64 n, .int .i64 q, .int .i64 s, .slice A m c]] W fun e w' => e = .returned (.int .i64 (D)) ∧ Below W.heap.size W w')
    : Calls Try.prog 5 #[.agg #[.int .i64 k, .int .i64 d, .int .i64 n, .int .i64 q, .int .i64 s, .slice A m c], .slice B nn cb] w fun e w' => e = .returned (.bool true) ∧ Below w.heap.size w w' := by
  have CFw := Lib.hid (fun W => few_any A m c W)
  rw [decide_eq_true hm] at CFw
  have h64 : ¬ (64 : Int) < (nn : Int) := by omega
  have CRe := Lib.hid CRe
  have dD := neT hD
  clear hD
  have X0 := Lib.hid (hr.below (below1 w (.cells #[.int .i64 k, .int .i64 d, .int .i64 n, .int .i64 q, .int .i64 s, .slice A m c] 26)))
  have Y0 := Lib.hid (hx.below (below1 w (.cells #[.int .i64 k, .int .i64 d, .int .i64 n, .int .i64 q, .int .i64 s, .slice A m c] 26)))
  have K0 := Lib.hid (Bk.new w 26 #[.int .i64 k, .int .i64 d, .int .i64 n, .int .i64 q, .int .i64 s, .slice A m c])
  have B0 := Lib.hid (below1 w (.cells #[.int .i64 k, .int .i64 d, .int .i64 n, .int .i64 q, .int .i64 s, .slice A m c] 26))
  clear hr hx hA hB
  go_enter Try.func5, Try.ntmps5
  go_wp2_with fail
  refine (awake_any _).mono ?_
  rintro e w1 ⟨rfl, hb⟩
  have X1 := Lib.hid (X0.out.below hb)
  have Y1 := Lib.hid (Y0.out.below hb)
  have K1 := Lib.hid (K0.out.later hb)
  have B1 := Lib.hid (B0.out.trans (hb.mono B0.out.size))
  clear X0 Y0 K0 B0 hb
  obtain ⟨c0, c1, c2, c3, c4, c5⟩ := bk6 K1.out
  go_wp2_with fail
  refine (CFw.out _).mono ?_
  rintro e w2 ⟨rfl, hb⟩
  have X2 := Lib.hid (X1.out.below hb)
  have Y2 := Lib.hid (Y1.out.below hb)
  have K2 := Lib.hid (K1.out.later hb)
  have B2 := Lib.hid (B1.out.trans (hb.mono B1.out.size))
  clear X1 Y1 K1 B1 hb
  clear c0 c1 c2 c3 c4 c5
  obtain ⟨c0, c1, c2, c3, c4, c5⟩ := bk6 K2.out
  go_wp2_with fail
  refine (CRe.out _ X2.out).mono ?_
  rintro e w3 ⟨rfl, hb⟩
  have X3 := Lib.hid (X2.out.below hb)
  have Y3 := Lib.hid (Y2.out.below hb)
  have K3 := Lib.hid (K2.out.later hb)
  have B3 := Lib.hid (B2.out.trans (hb.mono B2.out.size))
  clear X2 Y2 K2 B2 hb
  clear c0 c1 c2 c3 c4 c5
  go_wp2
  go_ret
  exact ⟨by simp, B3.out⟩
set_option maxRecDepth 100000 in
set_option maxHeartbeats 4000000 in
theorem btw_S (k d n q s : Int) (A : Option Addr) (m c : Nat) (ns : List (Int × Int)) (B : Option Addr) (nn cb : Nat) (xs : List Int) (w : World) (hm : m ≤ 22) (h : nn ≤ 64) (Sg : Int) (hS : ¬ Sg = 0) (hr : RdP w A m ns) (hx : RdI w B nn xs) (hA : A = none → m = 0 ∧ c = 0) (hB : B = none → nn = 0 ∧ cb = 0) (hn0 : nn ≤ 9223372036854775807)
    (CRe : ∀ W, RdP W A m ns → Calls Try.prog 16 #[.agg #[.int .i64 k, .int .i64 d, .int .i64 n, .int .i64 q, .int .i64 s, .slice A m c]] W fun e w' => e = .returned (.int .i64 (0)) ∧ Below W.heap.size W w')
    (CSg : ∀ W, RdI W B nn xs → Calls Try.prog 25 #[.slice B nn cb] W fun e w' => e = .returned (.int .i64 (Sg)) ∧ W = w')
    : Calls Try.prog 5 #[.agg #[.int .i64 k, .int .i64 d, .int .i64 n, .int .i64 q, .int .i64 s, .slice A m c], .slice B nn cb] w fun e w' => e = .returned (.bool true) ∧ Below w.heap.size w w' := by
  have CFw := Lib.hid (fun W => few_any A m c W)
  rw [decide_eq_true hm] at CFw
  have h64 : ¬ (64 : Int) < (nn : Int) := by omega
  have CRe := Lib.hid CRe
  have CSg := Lib.hid CSg
  have dS := neT hS
  clear hS
  have X0 := Lib.hid (hr.below (below1 w (.cells #[.int .i64 k, .int .i64 d, .int .i64 n, .int .i64 q, .int .i64 s, .slice A m c] 26)))
  have Y0 := Lib.hid (hx.below (below1 w (.cells #[.int .i64 k, .int .i64 d, .int .i64 n, .int .i64 q, .int .i64 s, .slice A m c] 26)))
  have K0 := Lib.hid (Bk.new w 26 #[.int .i64 k, .int .i64 d, .int .i64 n, .int .i64 q, .int .i64 s, .slice A m c])
  have B0 := Lib.hid (below1 w (.cells #[.int .i64 k, .int .i64 d, .int .i64 n, .int .i64 q, .int .i64 s, .slice A m c] 26))
  clear hr hx hA hB
  go_enter Try.func5, Try.ntmps5
  go_wp2_with fail
  refine (awake_any _).mono ?_
  rintro e w1 ⟨rfl, hb⟩
  have X1 := Lib.hid (X0.out.below hb)
  have Y1 := Lib.hid (Y0.out.below hb)
  have K1 := Lib.hid (K0.out.later hb)
  have B1 := Lib.hid (B0.out.trans (hb.mono B0.out.size))
  clear X0 Y0 K0 B0 hb
  obtain ⟨c0, c1, c2, c3, c4, c5⟩ := bk6 K1.out
  go_wp2_with fail
  refine (CFw.out _).mono ?_
  rintro e w2 ⟨rfl, hb⟩
  have X2 := Lib.hid (X1.out.below hb)
  have Y2 := Lib.hid (Y1.out.below hb)
  have K2 := Lib.hid (K1.out.later hb)
  have B2 := Lib.hid (B1.out.trans (hb.mono B1.out.size))
  clear X1 Y1 K1 B1 hb
  clear c0 c1 c2 c3 c4 c5
  obtain ⟨c0, c1, c2, c3, c4, c5⟩ := bk6 K2.out
  go_wp2_with fail
  refine (CRe.out _ X2.out).mono ?_
  rintro e w3 ⟨rfl, hb⟩
  have X3 := Lib.hid (X2.out.below hb)
  have Y3 := Lib.hid (Y2.out.below hb)
  have K3 := Lib.hid (K2.out.later hb)
  have B3 := Lib.hid (B2.out.trans (hb.mono B2.out.size))
  clear X2 Y2 K2 B2 hb
  clear c0 c1 c2 c3 c4 c5
  go_wp2_with fail
  refine (CSg.out _ Y3.out).mono ?_
  rintro e w' ⟨rfl, rfl⟩
  go_wp2
  go_ret
  exact ⟨by simp, B3.out⟩
set_option maxRecDepth 100000 in
set_option maxHeartbeats 4000000 in
theorem btw_M (k d n q s : Int) (A : Option Addr) (m c : Nat) (ns : List (Int × Int)) (B : Option Addr) (nn cb : Nat) (xs : List Int) (w : World) (hm : m ≤ 22) (h : nn ≤ 64) (hr : RdP w A m ns) (hx : RdI w B nn xs) (hA : A = none → m = 0 ∧ c = 0) (hB : B = none → nn = 0 ∧ cb = 0) (hn0 : nn ≤ 9223372036854775807)
    (CRe : ∀ W, RdP W A m ns → Calls Try.prog 16 #[.agg #[.int .i64 k, .int .i64 d, .int .i64 n, .int .i64 q, .int .i64 s, .slice A m c]] W fun e w' => e = .returned (.int .i64 (0)) ∧ Below W.heap.size W w')
    (CSg : ∀ W, RdI W B nn xs → Calls Try.prog 25 #[.slice B nn cb] W fun e w' => e = .returned (.int .i64 (0)) ∧ W = w')
    (CPo : ∀ A' c' W, RdN W A' m ns → Calls Try.prog 14 #[.agg #[.int .i64 k, .int .i64 d, .int .i64 n, .int .i64 q, .int .i64 s, .slice A' m c'], .int .i64 nn] W (RdRes W 8 0 []))
    (CRs : ∀ A' c' B' d' W, RdN W A' m ns → RdI W B' nn xs → Calls Try.prog 22 #[.agg #[.int .i64 k, .int .i64 d, .int .i64 n, .int .i64 q, .int .i64 s, .slice A' m c'], .slice B' nn d'] W (RdRes W 8 0 []))
    : Calls Try.prog 5 #[.agg #[.int .i64 k, .int .i64 d, .int .i64 n, .int .i64 q, .int .i64 s, .slice A m c], .slice B nn cb] w fun e w' => e = .returned (.bool true) ∧ Below w.heap.size w w' := by
  have CFw := Lib.hid (fun W => few_any A m c W)
  rw [decide_eq_true hm] at CFw
  have h64 : ¬ (64 : Int) < (nn : Int) := by omega
  have CRe := Lib.hid CRe
  have CSg := Lib.hid CSg
  have CPo := Lib.hid CPo
  have CRs := Lib.hid CRs
  have CCR : Hid (∀ W, RdP W A m ns → Calls Try.prog 15 #[.agg #[.int .i64 k, .int .i64 d, .int .i64 n, .int .i64 q, .int .i64 s, .slice A m c]] W (CpRul W k d n q s m ns)) := fun W h => copyRules_any k d n q s A m c ns W hA h (by omega)
  have CCI : Hid (∀ W, RdI W B nn xs → Calls Try.prog 23 #[.slice B nn cb] W (RdOne W nn xs)) := fun W h => (copyInts_any B nn cb xs W hB h (by omega)).mono fun e w' ho => ho.rd h.1
  have X0 := Lib.hid (hr.below (below1 w (.cells #[.int .i64 k, .int .i64 d, .int .i64 n, .int .i64 q, .int .i64 s, .slice A m c] 26)))
  have Y0 := Lib.hid (hx.below (below1 w (.cells #[.int .i64 k, .int .i64 d, .int .i64 n, .int .i64 q, .int .i64 s, .slice A m c] 26)))
  have K0 := Lib.hid (Bk.new w 26 #[.int .i64 k, .int .i64 d, .int .i64 n, .int .i64 q, .int .i64 s, .slice A m c])
  have B0 := Lib.hid (below1 w (.cells #[.int .i64 k, .int .i64 d, .int .i64 n, .int .i64 q, .int .i64 s, .slice A m c] 26))
  clear hr hx hA hB
  go_enter Try.func5, Try.ntmps5
  go_wp2_with fail
  refine (awake_any _).mono ?_
  rintro e w1 ⟨rfl, hb⟩
  have X1 := Lib.hid (X0.out.below hb)
  have Y1 := Lib.hid (Y0.out.below hb)
  have K1 := Lib.hid (K0.out.later hb)
  have B1 := Lib.hid (B0.out.trans (hb.mono B0.out.size))
  clear X0 Y0 K0 B0 hb
  obtain ⟨c0, c1, c2, c3, c4, c5⟩ := bk6 K1.out
  go_wp2_with fail
  refine (CFw.out _).mono ?_
  rintro e w2 ⟨rfl, hb⟩
  have X2 := Lib.hid (X1.out.below hb)
  have Y2 := Lib.hid (Y1.out.below hb)
  have K2 := Lib.hid (K1.out.later hb)
  have B2 := Lib.hid (B1.out.trans (hb.mono B1.out.size))
  clear X1 Y1 K1 B1 hb
  clear c0 c1 c2 c3 c4 c5
  obtain ⟨c0, c1, c2, c3, c4, c5⟩ := bk6 K2.out
  go_wp2_with fail
  refine (CRe.out _ X2.out).mono ?_
  rintro e w3 ⟨rfl, hb⟩
  have X3 := Lib.hid (X2.out.below hb)
  have Y3 := Lib.hid (Y2.out.below hb)
  have K3 := Lib.hid (K2.out.later hb)
  have B3 := Lib.hid (B2.out.trans (hb.mono B2.out.size))
  clear X2 Y2 K2 B2 hb
  clear c0 c1 c2 c3 c4 c5
  go_wp2_with fail
  refine (CSg.out _ Y3.out).mono ?_
  rintro e w' ⟨rfl, rfl⟩
  obtain ⟨c0, c1, c2, c3, c4, c5⟩ := bk6 K3.out
  go_wp2_with fail
  refine (CCR.out _ X3.out).mono ?_
  rintro e w4 ⟨⟨gRa, cRa, rfl, hrRa, _⟩, hb⟩
  have X4 := Lib.hid (X3.out.below hb)
  have Y4 := Lib.hid (Y3.out.below hb)
  have K4 := Lib.hid (K3.out.later hb)
  have B4 := Lib.hid (B3.out.trans (hb.mono B3.out.size))
  clear X3 Y3 K3 B3 hb
  have Ra4 := Lib.hid hrRa
  clear hrRa
  clear c0 c1 c2 c3 c4 c5
  go_wp2_with fail
  refine (CPo.out _ _ _ Ra4.out).mono ?_
  rintro e w5 ⟨⟨APa, cPa, rfl, hrPa⟩, hb⟩
  have X5 := Lib.hid (X4.out.below hb)
  have Y5 := Lib.hid (Y4.out.below hb)
  have K5 := Lib.hid (K4.out.later hb)
  have B5 := Lib.hid (B4.out.trans (hb.mono B4.out.size))
  have Ra5 := Lib.hid (Ra4.out.below hb)
  clear X4 Y4 K4 B4 Ra4 hb
  have Pa5 := Lib.hid hrPa
  clear hrPa
  obtain ⟨c0, c1, c2, c3, c4, c5⟩ := bk6 K5.out
  go_wp2_with fail
  refine (CCR.out _ X5.out).mono ?_
  rintro e w6 ⟨⟨gRb, cRb, rfl, hrRb, _⟩, hb⟩
  have X6 := Lib.hid (X5.out.below hb)
  have Y6 := Lib.hid (Y5.out.below hb)
  have K6 := Lib.hid (K5.out.later hb)
  have B6 := Lib.hid (B5.out.trans (hb.mono B5.out.size))
  have Pa6 := Lib.hid (Pa5.out.below hb)
  clear X5 Y5 K5 B5 Pa5 hb
  have Rb6 := Lib.hid hrRb
  clear hrRb
  clear c0 c1 c2 c3 c4 c5
  go_wp2_with fail
  refine (CCI.out _ Y6.out).mono ?_
  rintro e w7 ⟨⟨AXa, cXa, rfl, hrXa⟩, hb⟩
  have X7 := Lib.hid (X6.out.below hb)
  have Y7 := Lib.hid (Y6.out.below hb)
  have K7 := Lib.hid (K6.out.later hb)
  have B7 := Lib.hid (B6.out.trans (hb.mono B6.out.size))
  have Pa7 := Lib.hid (Pa6.out.below hb)
  have Rb7 := Lib.hid (Rb6.out.below hb)
  clear X6 Y6 K6 B6 Pa6 Rb6 hb
  have Xa7 := Lib.hid hrXa
  clear hrXa
  go_wp2_with fail
  refine (CRs.out _ _ _ _ _ Rb7.out Xa7.out).mono ?_
  rintro e w8 ⟨⟨AYa, cYa, rfl, hrYa⟩, hb⟩
  have X8 := Lib.hid (X7.out.below hb)
  have Y8 := Lib.hid (Y7.out.below hb)
  have K8 := Lib.hid (K7.out.later hb)
  have B8 := Lib.hid (B7.out.trans (hb.mono B7.out.size))
  have Pa8 := Lib.hid (Pa7.out.below hb)
  have Rb8 := Lib.hid (Rb7.out.below hb)
  have Xa8 := Lib.hid (Xa7.out.below hb)
  clear X7 Y7 K7 B7 Pa7 Rb7 Xa7 hb
  have Ya8 := Lib.hid hrYa
  clear hrYa
  go_wp2
  go_ret
  exact ⟨by simp, B8.out⟩

end Go.Proofs.Ytepcciodhppbnaa


namespace Go.Proofs.Ytepcciodhppbnaa
open Go.RowKit

set_option maxRecDepth 100000 in
set_option maxHeartbeats 4000000 in
theorem btw_ok1 (k n q s : Int) (A : Option Addr) (m c : Nat) (ns : List (Int × Int)) (B : Option Addr) (nn cb : Nat) (xs : List Int) (w : World) (hm : m ≤ 22) (h : nn ≤ 64) (hr : RdP w A m ns) (hx : RdI w B nn xs) (hA : A = none → m = 0 ∧ c = 0) (hB : B = none → nn = 0 ∧ cb = 0) (hxs : ∀ x ∈ xs, -32767 ≤ x ∧ x ≤ 32767) (l : Nat) (P Y : List Int) (hl : l ≤ 2000)
    (CRe : ∀ W, RdP W A m ns → Calls Try.prog 16 #[.agg #[.int .i64 k, .int .i64 1, .int .i64 n, .int .i64 q, .int .i64 s, .slice A m c]] W fun e w' => e = .returned (.int .i64 0) ∧ Below W.heap.size W w')
    (CSg : ∀ W, RdI W B nn xs → Calls Try.prog 25 #[.slice B nn cb] W fun e w' => e = .returned (.int .i64 0) ∧ W = w')
    (CPo : ∀ A' c' W, RdN W A' m ns → Calls Try.prog 14 #[.agg #[.int .i64 k, .int .i64 1, .int .i64 n, .int .i64 q, .int .i64 s, .slice A' m c'], .int .i64 nn] W (RdRes W 0 l P))
    (CRs : ∀ A' c' B' d' W, RdN W A' m ns → RdI W B' nn xs → Calls Try.prog 22 #[.agg #[.int .i64 k, .int .i64 1, .int .i64 n, .int .i64 q, .int .i64 s, .slice A' m c'], .slice B' nn d'] W (RdRes W 0 l Y))
    (HPB : ∀ i, i < l → 0 ≤ P.getD i 0 ∧ P.getD i 0 ≤ 64 * ((nn : Int) - 1))
    (HPA : ∀ i, i + 1 < l → P.getD i 0 ≤ P.getD (i + 1) 0)
    (HYV : ∀ i, i < l → Y.getD i 0 = outF 1 xs (P.getD i 0))
    : Calls Try.prog 5 #[.agg #[.int .i64 k, .int .i64 1, .int .i64 n, .int .i64 q, .int .i64 s, .slice A m c], .slice B nn cb] w fun e w' => e = .returned (.bool true) ∧ Below w.heap.size w w' := by
  have CFw := Lib.hid (fun W => few_any A m c W)
  rw [decide_eq_true hm] at CFw
  have h64 : ¬ (64 : Int) < (nn : Int) := by omega
  have hl2 : ¬ (2000 : Int) < (l : Int) := by omega
  have CRe := Lib.hid CRe
  have CSg := Lib.hid CSg
  have CPo := Lib.hid CPo
  have CRs := Lib.hid CRs
  have HPB := Lib.hid HPB
  have HPA := Lib.hid HPA
  have HYV := Lib.hid HYV
  have CCR : Hid (∀ W, RdP W A m ns → Calls Try.prog 15 #[.agg #[.int .i64 k, .int .i64 1, .int .i64 n, .int .i64 q, .int .i64 s, .slice A m c]] W (CpRul W k 1 n q s m ns)) := fun W h => copyRules_any k 1 n q s A m c ns W hA h (by omega)
  have CCI : Hid (∀ W, RdI W B nn xs → Calls Try.prog 23 #[.slice B nn cb] W (RdOne W nn xs)) := fun W h => (copyInts_any B nn cb xs W hB h (by omega)).mono fun e w' ho => ho.rd h.1
  have HXL : Hid (xs.length = nn) := hx.1
  have HXS := Lib.hid hxs
  have X0 := Lib.hid (hr.below (below1 w (.cells #[.int .i64 k, .int .i64 1, .int .i64 n, .int .i64 q, .int .i64 s, .slice A m c] 26)))
  have Y0 := Lib.hid (hx.below (below1 w (.cells #[.int .i64 k, .int .i64 1, .int .i64 n, .int .i64 q, .int .i64 s, .slice A m c] 26)))
  have K0 := Lib.hid (Bk.new w 26 #[.int .i64 k, .int .i64 1, .int .i64 n, .int .i64 q, .int .i64 s, .slice A m c])
  have B0 := Lib.hid (below1 w (.cells #[.int .i64 k, .int .i64 1, .int .i64 n, .int .i64 q, .int .i64 s, .slice A m c] 26))
  clear hr hx hA hB hxs
  go_enter Try.func5, Try.ntmps5
  go_wp2_with fail
  refine (awake_any _).mono ?_
  rintro e w1 ⟨rfl, hb⟩
  have X1 := Lib.hid (X0.out.below hb)
  have Y1 := Lib.hid (Y0.out.below hb)
  have K1 := Lib.hid (K0.out.later hb)
  have B1 := Lib.hid (B0.out.trans (hb.mono B0.out.size))
  clear X0 Y0 K0 B0 hb
  obtain ⟨c0, c1, c2, c3, c4, c5⟩ := bk6 K1.out
  go_wp2_with fail
  refine (CFw.out _).mono ?_
  rintro e w2 ⟨rfl, hb⟩
  have X2 := Lib.hid (X1.out.below hb)
  have Y2 := Lib.hid (Y1.out.below hb)
  have K2 := Lib.hid (K1.out.later hb)
  have B2 := Lib.hid (B1.out.trans (hb.mono B1.out.size))
  clear X1 Y1 K1 B1 hb
  clear c0 c1 c2 c3 c4 c5
  obtain ⟨c0, c1, c2, c3, c4, c5⟩ := bk6 K2.out
  go_wp2_with fail
  refine (CRe.out _ X2.out).mono ?_
  rintro e w3 ⟨rfl, hb⟩
  have X3 := Lib.hid (X2.out.below hb)
  have Y3 := Lib.hid (Y2.out.below hb)
  have K3 := Lib.hid (K2.out.later hb)
  have B3 := Lib.hid (B2.out.trans (hb.mono B2.out.size))
  clear X2 Y2 K2 B2 hb
  clear c0 c1 c2 c3 c4 c5
  go_wp2_with fail
  refine (CSg.out _ Y3.out).mono ?_
  rintro e w' ⟨rfl, rfl⟩
  obtain ⟨c0, c1, c2, c3, c4, c5⟩ := bk6 K3.out
  go_wp2_with fail
  refine (CCR.out _ X3.out).mono ?_
  rintro e w4 ⟨⟨gRa, cRa, rfl, hrRa, _⟩, hb⟩
  have X4 := Lib.hid (X3.out.below hb)
  have Y4 := Lib.hid (Y3.out.below hb)
  have K4 := Lib.hid (K3.out.later hb)
  have B4 := Lib.hid (B3.out.trans (hb.mono B3.out.size))
  clear X3 Y3 K3 B3 hb
  have Ra4 := Lib.hid hrRa
  clear hrRa
  clear c0 c1 c2 c3 c4 c5
  go_wp2_with fail
  refine (CPo.out _ _ _ Ra4.out).mono ?_
  rintro e w5 ⟨⟨APa, cPa, rfl, hrPa⟩, hb⟩
  have X5 := Lib.hid (X4.out.below hb)
  have Y5 := Lib.hid (Y4.out.below hb)
  have K5 := Lib.hid (K4.out.later hb)
  have B5 := Lib.hid (B4.out.trans (hb.mono B4.out.size))
  have Ra5 := Lib.hid (Ra4.out.below hb)
  clear X4 Y4 K4 B4 Ra4 hb
  have Pa5 := Lib.hid hrPa
  clear hrPa
  obtain ⟨c0, c1, c2, c3, c4, c5⟩ := bk6 K5.out
  go_wp2_with fail
  refine (CCR.out _ X5.out).mono ?_
  rintro e w6 ⟨⟨gRb, cRb, rfl, hrRb, _⟩, hb⟩
  have X6 := Lib.hid (X5.out.below hb)
  have Y6 := Lib.hid (Y5.out.below hb)
  have K6 := Lib.hid (K5.out.later hb)
  have B6 := Lib.hid (B5.out.trans (hb.mono B5.out.size))
  have Pa6 := Lib.hid (Pa5.out.below hb)
  clear X5 Y5 K5 B5 Pa5 hb
  have Rb6 := Lib.hid hrRb
  clear hrRb
  clear c0 c1 c2 c3 c4 c5
  go_wp2_with fail
  refine (CCI.out _ Y6.out).mono ?_
  rintro e w7 ⟨⟨AXa, cXa, rfl, hrXa⟩, hb⟩
  have X7 := Lib.hid (X6.out.below hb)
  have Y7 := Lib.hid (Y6.out.below hb)
  have K7 := Lib.hid (K6.out.later hb)
  have B7 := Lib.hid (B6.out.trans (hb.mono B6.out.size))
  have Pa7 := Lib.hid (Pa6.out.below hb)
  have Rb7 := Lib.hid (Rb6.out.below hb)
  clear X6 Y6 K6 B6 Pa6 Rb6 hb
  have Xa7 := Lib.hid hrXa
  clear hrXa
  go_wp2_with fail
  refine (CRs.out _ _ _ _ _ Rb7.out Xa7.out).mono ?_
  rintro e w8 ⟨⟨AYa, cYa, rfl, hrYa⟩, hb⟩
  have X8 := Lib.hid (X7.out.below hb)
  have Y8 := Lib.hid (Y7.out.below hb)
  have K8 := Lib.hid (K7.out.later hb)
  have B8 := Lib.hid (B7.out.trans (hb.mono B7.out.size))
  have Pa8 := Lib.hid (Pa7.out.below hb)
  have Rb8 := Lib.hid (Rb7.out.below hb)
  have Xa8 := Lib.hid (Xa7.out.below hb)
  clear X7 Y7 K7 B7 Pa7 Rb7 Xa7 hb
  have Ya8 := Lib.hid hrYa
  clear hrYa
  go_wp2
  go_loopw [9] (fun i wr => ∃ u : Nat, u ≤ l ∧ i = .int .i64 u ∧ Hid (∃ j, wr = w8.drewN j)) (fun i _ => l - (intOf i).toNat)
  case atStart => exact ⟨0, Nat.zero_le _, rfl, 0, rfl⟩
  case round =>
    obtain ⟨u, hu, rfl, HJ⟩ := hrel
    obtain ⟨jj, hj⟩ := HJ.out
    by_cases hlt : u < l
    · have huI : (u : Int) < (l : Int) := by omega
      have hpb := HPB.out u hlt
      have hyv := HYV.out u hlt
      have hpa := fun h => HPA.out (u - 1) h
      obtain ⟨ap, rfl, _, hcp⟩ := (Pa8.out.drewN jj).2 (by omega)
      obtain ⟨ay, rfl, _, hcy⟩ := (Ya8.out.drewN jj).2 (by omega)
      obtain ⟨ax, rfl, _, hcx⟩ := (Y8.out.drewN jj).2 (by omega)
      have hc1 := hcp u hlt
      have hc2 := hcy u hlt
      have hc0 := fun h => hcp (u - 1) h
      have hcd := (bk6 (K8.out.drewN jj)).2.1
      rw [← hj] at hc1 hc2 hcd
      have HCX : Hid (∀ i, i < nn → wr.cell? (ax.add i) = some (.int .i64 (xs.getD i 0))) := Lib.hid (fun i hi => by rw [hj]; exact hcx i hi)
      obtain ⟨p, hp⟩ : ∃ p, P.getD u 0 = p := ⟨_, rfl⟩
      rw [hp] at hc1 hpb hyv
      obtain ⟨y, hy⟩ : ∃ y, Y.getD u 0 = y := ⟨_, rfl⟩
      rw [hy] at hc2 hyv
      have hnn : 0 < nn := by omega
      have hyb : -32767 ≤ y ∧ y ≤ 32767 := by rw [hyv]; exact outF_bd _ _ _
      have hxl := HXL.out
      have HB := btw_one (p := p) hpb.1 HXS.out
      rw [← hyv] at HB
      have hVb := arnd_bd HXS.out p
      have hVd : ∀ j, arnd xs p j = xs.getD (clmp nn (p / 64 - 1 + (j : Int))) 0 := fun j => by unfold arnd; rw [hxl]
      obtain ⟨a, ha⟩ : ∃ a : Nat, p / 64 = (a : Int) := ⟨(p / 64).toNat, by omega⟩
      have hv1 : xs.getD a 0 = arnd xs p 1 := by rw [hVd, ha]; congr 1; unfold clmp; omega
      have HM0 : Hid (mxJ (arnd xs p) 0 = 0) := Lib.hid rfl
      have HL0 : Hid (loJ (arnd xs p) (arnd xs p 1) (p % 64) 0 = arnd xs p 1) := Lib.hid rfl
      have HH0 : Hid (hiJ (arnd xs p) (arnd xs p 1) (p % 64) 0 = arnd xs p 1) := Lib.hid rfl
      have HMb := Lib.hid (mxJ_bd hVb)
      have HLb := Lib.hid (loJ_bd (f := p % 64) hVb (hVb 1))
      have HHb := Lib.hid (hiJ_bd (f := p % 64) hVb (hVb 1))
      have HMs : Hid (∀ v, mxJ (arnd xs p) (v + 1) = if mxJ (arnd xs p) v < absF (arnd xs p v) then absF (arnd xs p v) else mxJ (arnd xs p) v) := Lib.hid (fun v => rfl)
      have HLs : Hid (∀ v, loJ (arnd xs p) (arnd xs p 1) (p % 64) (v + 1) = if v = 2 ∧ 0 < p % 64 then (if arnd xs p v < loJ (arnd xs p) (arnd xs p 1) (p % 64) v then arnd xs p v else loJ (arnd xs p) (arnd xs p 1) (p % 64) v) else loJ (arnd xs p) (arnd xs p 1) (p % 64) v) := Lib.hid (fun v => rfl)
      have HHs : Hid (∀ v, hiJ (arnd xs p) (arnd xs p 1) (p % 64) (v + 1) = if v = 2 ∧ 0 < p % 64 then (if hiJ (arnd xs p) (arnd xs p 1) (p % 64) v < arnd xs p v then arnd xs p v else hiJ (arnd xs p) (arnd xs p 1) (p % 64) v) else hiJ (arnd xs p) (arnd xs p 1) (p % 64) v) := Lib.hid (fun v => rfl)
      obtain ⟨V, hV⟩ : ∃ V, arnd xs p = V := ⟨_, rfl⟩
      rw [hV] at HB hVb hVd hv1 HM0 HL0 HH0 HMb HLb HHb HMs HLs HHs
      obtain ⟨MX, hMX⟩ : ∃ MX, mxJ V = MX := ⟨_, rfl⟩
      obtain ⟨LO, hLO⟩ : ∃ LO, loJ V (V 1) (p % 64) = LO := ⟨_, rfl⟩
      obtain ⟨HI, hHI⟩ : ∃ HI, hiJ V (V 1) (p % 64) = HI := ⟨_, rfl⟩
      rw [hMX] at HB HM0 HMb HMs
      rw [hLO] at HL0 HLb HLs HB
      rw [hHI] at HH0 HHb HHs HB
      obtain ⟨f, hf⟩ : ∃ f, p % 64 = f := ⟨_, rfl⟩
      rw [hf] at HLs HHs
      have hfb : 0 ≤ f ∧ f < 64 := by omega
      have HB' := Lib.hid HB
      have HVb := Lib.hid hVb
      have HVd : Hid (∀ j, V j = xs.getD (clmp nn ((a : Int) - 1 + (j : Int))) 0) := Lib.hid (fun j => by rw [hVd, ha])
      have hx0 := HCX.out a (by omega)
      rw [hv1] at hx0
      have haN : a < nn := by omega
      have haI : (a : Int) < (nn : Int) := by omega
      have hq1 : p.tdiv 64 = (a : Int) := by rw [Int.tdiv_eq_ediv_of_nonneg hpb.1, ha]
      have hq2 : p.tmod 64 = f := by rw [Int.tmod_eq_emod_of_nonneg hpb.1, hf]
      obtain ⟨m1, hm1⟩ : ∃ m1 : Nat, nn = m1 + 1 := ⟨nn - 1, by omega⟩
      have w1 : IntKind.i64.wrap ((nn : Int) - 1) = (m1 : Int) := by rw [show (nn : Int) - 1 = (m1 : Int) by omega]; exact IntWalk.i64_in _ (by omega)
      have w2a : IntKind.i64.wrap (64 * (m1 : Int)) = 64 * (m1 : Int) := IntWalk.i64_in _ (by omega)
      obtain ⟨last, hlast⟩ : ∃ x, 64 * (m1 : Int) = x := ⟨_, rfl⟩
      have w2 : IntKind.i64.wrap (64 * (m1 : Int)) = last := by rw [w2a, hlast]
      have CWp := Lib.hid (fun W => within_any p 0 last W)
      rw [show fromB 0 last [p] = true by rw [fromB_one]; exact decide_eq_true (by omega)] at CWp
      have CWy := Lib.hid (fun W => within_any y (-32767) 32767 W)
      rw [show fromB (-32767) 32767 [y] = true by rw [fromB_one]; exact decide_eq_true hyb] at CWy
      have w3 : IntKind.i64.wrap ((a : Int) - 1) = (a : Int) - 1 := IntWalk.i64_in _ (by omega)
      have w4 : IntKind.i64.wrap ((a : Int) + 2) = (a : Int) + 2 := IntWalk.i64_in _ (by omega)
      have w5 : IntKind.i64.wrap ((a : Int) + 1) = (a : Int) + 1 := IntWalk.i64_in _ (by omega)
      have HJ' := Lib.hid hj
      have HNM := Lib.hid hm1
      by_cases hu0 : u = 0
      · have huz : ¬ (0 : Int) < (u : Int) := by omega
        have huzN : ¬ 0 < u := by omega
        have hpp : True := trivial
        clear hcp hcy hcx hc0 hpa hj HJ hV hMX hLO hHI HB hVb hVd hv1 hyv hp hy w2a hm1 hlast hf ha hxl hu0
        go_wp2
        go_quiet ((first | (go_at_call 18; with_reducible exact quietP (CWp.out _)) | (go_at_call 18; with_reducible exact quietP (CWy.out _))))
        go_wp2
        clear hpp
        go_quiet (fail)
        go_wp2
        clear hx0
        go_loop [11, 12, 13, 14] (fun lo hi mo kv => ∃ v : Nat, v ≤ 4 ∧ kv = .int .i64 ((a : Int) - 1 + (v : Int)) ∧ lo = .int .i64 (LO v) ∧ hi = .int .i64 (HI v) ∧ mo = .int .i64 (MX v)) (fun _ _ _ kv => a + 4 - (intOf kv + 1).toNat)
        case atStart => exact ⟨0, by omega, by simp, by rw [HL0.out], by rw [HH0.out], by rw [HM0.out]⟩
        case round =>
          obtain ⟨v, hv, rfl, rfl, rfl, rfl⟩ := hrel
          by_cases hv3 : v < 4
          · obtain ⟨ix, hix⟩ : ∃ ix, clmp nn ((a : Int) - 1 + (v : Int)) = ix := ⟨_, rfl⟩
            have hixn : ix < nn := by rw [← hix]; exact clmp_lt hnn _
            have hcx := HCX.out ix hixn
            rw [← hix, ← HVd.out v] at hcx
            rw [hix] at hcx
            have hxi : (ix : Int) = min (m1 : Int) (max 0 ((a : Int) - 1 + (v : Int))) := by rw [← hix]; unfold clmp; have := HNM.out; omega
            obtain ⟨kk, hkk⟩ : ∃ kk, (a : Int) - 1 + (v : Int) = kk := ⟨_, rfl⟩
            have hkk2 : (a : Int) - 1 + ((v + 1 : Nat) : Int) = kk + 1 := by omega
            have hle : kk ≤ (a : Int) + 2 := by omega
            have hkb : -1 ≤ kk := by omega
            rw [hkk] at hxi ⊢
            obtain ⟨k1, hk1⟩ : ∃ k1, max 0 kk = k1 := ⟨_, rfl⟩
            rw [hk1] at hxi
            have e1 : (if 0 < kk then kk else 0) = k1 := by rw [← hk1]; split <;> omega
            have e2 : (if k1 < (m1 : Int) then k1 else (m1 : Int)) = (ix : Int) := by rw [hxi]; split <;> omega
            have w6 : IntKind.i64.wrap (kk + 1) = kk + 1 := IntWalk.i64_in _ (by omega)
            have hixI : (ix : Int) < (nn : Int) := by omega
            have hxv := HVb.out v
            have CSz := Lib.hid (fun W => bsize_any (V v) W (by omega))
            have hms := HMs.out v
            have hls := HLs.out v
            have hhs := HHs.out v
            obtain ⟨x, hx⟩ : ∃ x, V v = x := ⟨_, rfl⟩
            rw [hx] at hcx hxv CSz hms hls hhs
            obtain ⟨sz, hsz⟩ : ∃ sz, absF x = sz := ⟨_, rfl⟩
            rw [hsz] at CSz hms
            obtain ⟨mv, hmv⟩ : ∃ z, MX v = z := ⟨_, rfl⟩
            obtain ⟨mv1, hmv1⟩ : ∃ z, MX (v + 1) = z := ⟨_, rfl⟩
            obtain ⟨lv, hlv⟩ : ∃ z, LO v = z := ⟨_, rfl⟩
            obtain ⟨lv1, hlv1⟩ : ∃ z, LO (v + 1) = z := ⟨_, rfl⟩
            obtain ⟨gv, hgv⟩ : ∃ z, HI v = z := ⟨_, rfl⟩
            obtain ⟨gv1, hgv1⟩ : ∃ z, HI (v + 1) = z := ⟨_, rfl⟩
            rw [hmv, hmv1] at hms
            rw [hlv, hlv1] at hls
            rw [hgv, hgv1] at hhs
            rw [hmv, hlv, hgv]
            have HR1 := Lib.hid hmv1
            have HR2 := Lib.hid hlv1
            have HR3 := Lib.hid hgv1
            have HR4 := Lib.hid hkk2
            have e3 : (if mv < sz then sz else mv) = mv1 := hms.symm
            clear hix hxi hk1 hx hsz hmv hmv1 hlv hlv1 hgv hgv1 hms hkk2
            by_cases hj2 : v = 2
            · have hkq : (kk == (a : Int) + 1) = true := by simp; omega
              clear hkk
              by_cases hf0 : 0 < f
              · have e4 : (if x < lv then x else lv) = lv1 := by have h := hls; rw [if_pos ⟨hj2, hf0⟩] at h; exact h.symm
                have e5 : (if gv < x then x else gv) = gv1 := by have h := hhs; rw [if_pos ⟨hj2, hf0⟩] at h; exact h.symm
                clear hls hhs
                go_wp2_with fail
                refine (CSz.out _).mono ?_
                rintro e w' ⟨rfl, rfl⟩
                go_wp2
                go_round
                case rel => exact ⟨v + 1, by omega, by rw [HR4.out], by rw [HR2.out], by rw [HR3.out], by rw [HR1.out]⟩
                case measure => simp [intOf]; omega
              · have e4 : lv1 = lv := by rw [hls, if_neg (fun h => hf0 h.2)]
                have e5 : gv1 = gv := by rw [hhs, if_neg (fun h => hf0 h.2)]
                have HE4 := Lib.hid e4
                have HE5 := Lib.hid e5
                clear hls hhs e4 e5
                go_wp2_with fail
                refine (CSz.out _).mono ?_
                rintro e w' ⟨rfl, rfl⟩
                go_wp2
                go_round
                case rel => exact ⟨v + 1, by omega, by rw [HR4.out], by rw [HR2.out, HE4.out], by rw [HR3.out, HE5.out], by rw [HR1.out]⟩
                case measure => simp [intOf]; omega
            · have hkq : (kk == (a : Int) + 1) = false := by simp; omega
              have e4 : lv1 = lv := by rw [hls, if_neg (fun h => hj2 h.1)]
              have e5 : gv1 = gv := by rw [hhs, if_neg (fun h => hj2 h.1)]
              have HE4 := Lib.hid e4
              have HE5 := Lib.hid e5
              clear hkk hls hhs e4 e5
              go_wp2_with fail
              refine (CSz.out _).mono ?_
              rintro e w' ⟨rfl, rfl⟩
              go_wp2
              go_round
              case rel => exact ⟨v + 1, by omega, by rw [HR4.out], by rw [HR2.out, HE4.out], by rw [HR3.out, HE5.out], by rw [HR1.out]⟩
              case measure => simp [intOf]; omega
          · obtain rfl : v = 4 := by omega
            obtain ⟨kk, hkk⟩ : ∃ kk, (a : Int) - 1 + ((4 : Nat) : Int) = kk := ⟨_, rfl⟩
            have hle : ¬ kk ≤ (a : Int) + 2 := by omega
            have hB := HB'.out
            have hMb := HMb.out 4
            obtain ⟨m4, hm4⟩ : ∃ z, MX 4 = z := ⟨_, rfl⟩
            obtain ⟨l4, hl4⟩ : ∃ z, LO 4 = z := ⟨_, rfl⟩
            obtain ⟨h4, hh4⟩ : ∃ z, HI 4 = z := ⟨_, rfl⟩
            rw [hm4] at hB hMb
            rw [hl4, hh4] at hB
            have CWl := Lib.hid (fun W => within_any y l4 h4 W)
            rw [show fromB l4 h4 [y] = true by rw [fromB_one]; exact decide_eq_true hB.1] at CWl
            have hsy := absF_bd y 32767 hyb
            have CSz := Lib.hid (fun W => bsize_any y W (by omega))
            obtain ⟨sy, hsye⟩ : ∃ z, absF y = z := ⟨_, rfl⟩
            rw [hsye] at CSz hsy hB
            have w7 : IntKind.i64.wrap (4 * sy) = 4 * sy := IntWalk.i64_in _ (by omega)
            have w8 : IntKind.i64.wrap (5 * m4) = 5 * m4 := IntWalk.i64_in _ (by omega)
            have w9 : IntKind.i64.wrap (5 * m4 + 4) = 5 * m4 + 4 := IntWalk.i64_in _ (by omega)
            have hcmp : ¬ 5 * m4 + 4 < 4 * sy := by omega
            rw [hkk, hm4, hl4, hh4]
            clear hkk hm4 hl4 hh4 hsye hB
            go_wp2_with fail
            refine (CWl.out _).mono ?_
            rintro e w' ⟨rfl, rfl⟩
            go_wp2_with fail
            refine (CSz.out _).mono ?_
            rintro e w' ⟨rfl, rfl⟩
            go_wp2
            go_roundw
            case rel => exact ⟨u + 1, by omega, by go_num, by rw [HJ'.out]; exact ⟨_, by simp [World.drewN_drewN]; rfl⟩⟩
            case measure => simp [intOf]; omega
      · have huz : (0 : Int) < (u : Int) := by omega
        have huzN : 0 < u := by omega
        obtain ⟨u1, hu1⟩ : ∃ u1, u - 1 = u1 := ⟨_, rfl⟩
        have hpa1 := hpa (by omega)
        have hpv := hc0 (by omega)
        rw [hu1] at hpa1 hpv
        rw [show u1 + 1 = u by omega, hp] at hpa1
        rw [← hj] at hpv
        obtain ⟨pp, hppe⟩ : ∃ z, P.getD u1 0 = z := ⟨_, rfl⟩
        rw [hppe] at hpa1 hpv
        have hpp : ¬ p < pp := by omega
        have w10 : IntKind.i64.wrap ((u : Int) - 1) = (u1 : Int) := by rw [show (u : Int) - 1 = (u1 : Int) by omega]; exact IntWalk.i64_in _ (by omega)
        have hu1I : (u1 : Int) < (l : Int) := by omega
        have hu1N : u1 < l := by omega
        clear hcp hcy hcx hc0 hpa hj HJ hV hMX hLO hHI HB hVb hVd hv1 hyv hp hy w2a hm1 hlast hf ha hxl hu0 hu1 hpa1 hppe
        go_wp2
        go_quiet ((first | (go_at_call 18; with_reducible exact quietP (CWp.out _)) | (go_at_call 18; with_reducible exact quietP (CWy.out _))))
        go_wp2
        clear hpp hpv
        go_quiet (fail)
        go_wp2
        clear hx0
        go_loop [11, 12, 13, 14] (fun lo hi mo kv => ∃ v : Nat, v ≤ 4 ∧ kv = .int .i64 ((a : Int) - 1 + (v : Int)) ∧ lo = .int .i64 (LO v) ∧ hi = .int .i64 (HI v) ∧ mo = .int .i64 (MX v)) (fun _ _ _ kv => a + 4 - (intOf kv + 1).toNat)
        case atStart => exact ⟨0, by omega, by simp, by rw [HL0.out], by rw [HH0.out], by rw [HM0.out]⟩
        case round =>
          obtain ⟨v, hv, rfl, rfl, rfl, rfl⟩ := hrel
          by_cases hv3 : v < 4
          · obtain ⟨ix, hix⟩ : ∃ ix, clmp nn ((a : Int) - 1 + (v : Int)) = ix := ⟨_, rfl⟩
            have hixn : ix < nn := by rw [← hix]; exact clmp_lt hnn _
            have hcx := HCX.out ix hixn
            rw [← hix, ← HVd.out v] at hcx
            rw [hix] at hcx
            have hxi : (ix : Int) = min (m1 : Int) (max 0 ((a : Int) - 1 + (v : Int))) := by rw [← hix]; unfold clmp; have := HNM.out; omega
            obtain ⟨kk, hkk⟩ : ∃ kk, (a : Int) - 1 + (v : Int) = kk := ⟨_, rfl⟩
            have hkk2 : (a : Int) - 1 + ((v + 1 : Nat) : Int) = kk + 1 := by omega
            have hle : kk ≤ (a : Int) + 2 := by omega
            have hkb : -1 ≤ kk := by omega
            rw [hkk] at hxi ⊢
            obtain ⟨k1, hk1⟩ : ∃ k1, max 0 kk = k1 := ⟨_, rfl⟩
            rw [hk1] at hxi
            have e1 : (if 0 < kk then kk else 0) = k1 := by rw [← hk1]; split <;> omega
            have e2 : (if k1 < (m1 : Int) then k1 else (m1 : Int)) = (ix : Int) := by rw [hxi]; split <;> omega
            have w6 : IntKind.i64.wrap (kk + 1) = kk + 1 := IntWalk.i64_in _ (by omega)
            have hixI : (ix : Int) < (nn : Int) := by omega
            have hxv := HVb.out v
            have CSz := Lib.hid (fun W => bsize_any (V v) W (by omega))
            have hms := HMs.out v
            have hls := HLs.out v
            have hhs := HHs.out v
            obtain ⟨x, hx⟩ : ∃ x, V v = x := ⟨_, rfl⟩
            rw [hx] at hcx hxv CSz hms hls hhs
            obtain ⟨sz, hsz⟩ : ∃ sz, absF x = sz := ⟨_, rfl⟩
            rw [hsz] at CSz hms
            obtain ⟨mv, hmv⟩ : ∃ z, MX v = z := ⟨_, rfl⟩
            obtain ⟨mv1, hmv1⟩ : ∃ z, MX (v + 1) = z := ⟨_, rfl⟩
            obtain ⟨lv, hlv⟩ : ∃ z, LO v = z := ⟨_, rfl⟩
            obtain ⟨lv1, hlv1⟩ : ∃ z, LO (v + 1) = z := ⟨_, rfl⟩
            obtain ⟨gv, hgv⟩ : ∃ z, HI v = z := ⟨_, rfl⟩
            obtain ⟨gv1, hgv1⟩ : ∃ z, HI (v + 1) = z := ⟨_, rfl⟩
            rw [hmv, hmv1] at hms
            rw [hlv, hlv1] at hls
            rw [hgv, hgv1] at hhs
            rw [hmv, hlv, hgv]
            have HR1 := Lib.hid hmv1
            have HR2 := Lib.hid hlv1
            have HR3 := Lib.hid hgv1
            have HR4 := Lib.hid hkk2
            have e3 : (if mv < sz then sz else mv) = mv1 := hms.symm
            clear hix hxi hk1 hx hsz hmv hmv1 hlv hlv1 hgv hgv1 hms hkk2
            by_cases hj2 : v = 2
            · have hkq : (kk == (a : Int) + 1) = true := by simp; omega
              clear hkk
              by_cases hf0 : 0 < f
              · have e4 : (if x < lv then x else lv) = lv1 := by have h := hls; rw [if_pos ⟨hj2, hf0⟩] at h; exact h.symm
                have e5 : (if gv < x then x else gv) = gv1 := by have h := hhs; rw [if_pos ⟨hj2, hf0⟩] at h; exact h.symm
                clear hls hhs
                go_wp2_with fail
                refine (CSz.out _).mono ?_
                rintro e w' ⟨rfl, rfl⟩
                go_wp2
                go_round
                case rel => exact ⟨v + 1, by omega, by rw [HR4.out], by rw [HR2.out], by rw [HR3.out], by rw [HR1.out]⟩
                case measure => simp [intOf]; omega
              · have e4 : lv1 = lv := by rw [hls, if_neg (fun h => hf0 h.2)]
                have e5 : gv1 = gv := by rw [hhs, if_neg (fun h => hf0 h.2)]
                have HE4 := Lib.hid e4
                have HE5 := Lib.hid e5
                clear hls hhs e4 e5
                go_wp2_with fail
                refine (CSz.out _).mono ?_
                rintro e w' ⟨rfl, rfl⟩
                go_wp2
                go_round
                case rel => exact ⟨v + 1, by omega, by rw [HR4.out], by rw [HR2.out, HE4.out], by rw [HR3.out, HE5.out], by rw [HR1.out]⟩
                case measure => simp [intOf]; omega
            · have hkq : (kk == (a : Int) + 1) = false := by simp; omega
              have e4 : lv1 = lv := by rw [hls, if_neg (fun h => hj2 h.1)]
              have e5 : gv1 = gv := by rw [hhs, if_neg (fun h => hj2 h.1)]
              have HE4 := Lib.hid e4
              have HE5 := Lib.hid e5
              clear hkk hls hhs e4 e5
              go_wp2_with fail
              refine (CSz.out _).mono ?_
              rintro e w' ⟨rfl, rfl⟩
              go_wp2
              go_round
              case rel => exact ⟨v + 1, by omega, by rw [HR4.out], by rw [HR2.out, HE4.out], by rw [HR3.out, HE5.out], by rw [HR1.out]⟩
              case measure => simp [intOf]; omega
          · obtain rfl : v = 4 := by omega
            obtain ⟨kk, hkk⟩ : ∃ kk, (a : Int) - 1 + ((4 : Nat) : Int) = kk := ⟨_, rfl⟩
            have hle : ¬ kk ≤ (a : Int) + 2 := by omega
            have hB := HB'.out
            have hMb := HMb.out 4
            obtain ⟨m4, hm4⟩ : ∃ z, MX 4 = z := ⟨_, rfl⟩
            obtain ⟨l4, hl4⟩ : ∃ z, LO 4 = z := ⟨_, rfl⟩
            obtain ⟨h4, hh4⟩ : ∃ z, HI 4 = z := ⟨_, rfl⟩
            rw [hm4] at hB hMb
            rw [hl4, hh4] at hB
            have CWl := Lib.hid (fun W => within_any y l4 h4 W)
            rw [show fromB l4 h4 [y] = true by rw [fromB_one]; exact decide_eq_true hB.1] at CWl
            have hsy := absF_bd y 32767 hyb
            have CSz := Lib.hid (fun W => bsize_any y W (by omega))
            obtain ⟨sy, hsye⟩ : ∃ z, absF y = z := ⟨_, rfl⟩
            rw [hsye] at CSz hsy hB
            have w7 : IntKind.i64.wrap (4 * sy) = 4 * sy := IntWalk.i64_in _ (by omega)
            have w8 : IntKind.i64.wrap (5 * m4) = 5 * m4 := IntWalk.i64_in _ (by omega)
            have w9 : IntKind.i64.wrap (5 * m4 + 4) = 5 * m4 + 4 := IntWalk.i64_in _ (by omega)
            have hcmp : ¬ 5 * m4 + 4 < 4 * sy := by omega
            rw [hkk, hm4, hl4, hh4]
            clear hkk hm4 hl4 hh4 hsye hB
            go_wp2_with fail
            refine (CWl.out _).mono ?_
            rintro e w' ⟨rfl, rfl⟩
            go_wp2_with fail
            refine (CSz.out _).mono ?_
            rintro e w' ⟨rfl, rfl⟩
            go_wp2
            go_roundw
            case rel => exact ⟨u + 1, by omega, by go_num, by rw [HJ'.out]; exact ⟨_, by simp [World.drewN_drewN]; rfl⟩⟩
            case measure => simp [intOf]; omega
    · obtain rfl : l = u := by omega
      have huI : ¬ (l : Int) < (l : Int) := by omega
      have BB := belowDrewN B8.out jj
      rw [← hj] at BB
      clear hlt hj HJ
      go_wp2
      go_ret
      exact ⟨by simp, BB⟩

end Go.Proofs.Ytepcciodhppbnaa


namespace Go.Proofs.Ytepcciodhppbnaa
open Go.RowKit

set_option maxRecDepth 100000 in
set_option maxHeartbeats 4000000 in
theorem btw_ok3 (k n q s : Int) (A : Option Addr) (m c : Nat) (ns : List (Int × Int)) (B : Option Addr) (nn cb : Nat) (xs : List Int) (w : World) (hm : m ≤ 22) (h : nn ≤ 64) (hr : RdP w A m ns) (hx : RdI w B nn xs) (hA : A = none → m = 0 ∧ c = 0) (hB : B = none → nn = 0 ∧ cb = 0) (hxs : ∀ x ∈ xs, -32767 ≤ x ∧ x ≤ 32767) (l : Nat) (P Y : List Int) (hl : l ≤ 2000)
    (CRe : ∀ W, RdP W A m ns → Calls Try.prog 16 #[.agg #[.int .i64 k, .int .i64 3, .int .i64 n, .int .i64 q, .int .i64 s, .slice A m c]] W fun e w' => e = .returned (.int .i64 0) ∧ Below W.heap.size W w')
    (CSg : ∀ W, RdI W B nn xs → Calls Try.prog 25 #[.slice B nn cb] W fun e w' => e = .returned (.int .i64 0) ∧ W = w')
    (CPo : ∀ A' c' W, RdN W A' m ns → Calls Try.prog 14 #[.agg #[.int .i64 k, .int .i64 3, .int .i64 n, .int .i64 q, .int .i64 s, .slice A' m c'], .int .i64 nn] W (RdRes W 0 l P))
    (CRs : ∀ A' c' B' d' W, RdN W A' m ns → RdI W B' nn xs → Calls Try.prog 22 #[.agg #[.int .i64 k, .int .i64 3, .int .i64 n, .int .i64 q, .int .i64 s, .slice A' m c'], .slice B' nn d'] W (RdRes W 0 l Y))
    (HPB : ∀ i, i < l → 0 ≤ P.getD i 0 ∧ P.getD i 0 ≤ 64 * ((nn : Int) - 1))
    (HPA : ∀ i, i + 1 < l → P.getD i 0 ≤ P.getD (i + 1) 0)
    (HYV : ∀ i, i < l → Y.getD i 0 = outF 3 xs (P.getD i 0))
    : Calls Try.prog 5 #[.agg #[.int .i64 k, .int .i64 3, .int .i64 n, .int .i64 q, .int .i64 s, .slice A m c], .slice B nn cb] w fun e w' => e = .returned (.bool true) ∧ Below w.heap.size w w' := by
  have CFw := Lib.hid (fun W => few_any A m c W)
  rw [decide_eq_true hm] at CFw
  have h64 : ¬ (64 : Int) < (nn : Int) := by omega
  have hl2 : ¬ (2000 : Int) < (l : Int) := by omega
  have CRe := Lib.hid CRe
  have CSg := Lib.hid CSg
  have CPo := Lib.hid CPo
  have CRs := Lib.hid CRs
  have HPB := Lib.hid HPB
  have HPA := Lib.hid HPA
  have HYV := Lib.hid HYV
  have CCR : Hid (∀ W, RdP W A m ns → Calls Try.prog 15 #[.agg #[.int .i64 k, .int .i64 3, .int .i64 n, .int .i64 q, .int .i64 s, .slice A m c]] W (CpRul W k 3 n q s m ns)) := fun W h => copyRules_any k 3 n q s A m c ns W hA h (by omega)
  have CCI : Hid (∀ W, RdI W B nn xs → Calls Try.prog 23 #[.slice B nn cb] W (RdOne W nn xs)) := fun W h => (copyInts_any B nn cb xs W hB h (by omega)).mono fun e w' ho => ho.rd h.1
  have HXL : Hid (xs.length = nn) := hx.1
  have HXS := Lib.hid hxs
  have X0 := Lib.hid (hr.below (below1 w (.cells #[.int .i64 k, .int .i64 3, .int .i64 n, .int .i64 q, .int .i64 s, .slice A m c] 26)))
  have Y0 := Lib.hid (hx.below (below1 w (.cells #[.int .i64 k, .int .i64 3, .int .i64 n, .int .i64 q, .int .i64 s, .slice A m c] 26)))
  have K0 := Lib.hid (Bk.new w 26 #[.int .i64 k, .int .i64 3, .int .i64 n, .int .i64 q, .int .i64 s, .slice A m c])
  have B0 := Lib.hid (below1 w (.cells #[.int .i64 k, .int .i64 3, .int .i64 n, .int .i64 q, .int .i64 s, .slice A m c] 26))
  clear hr hx hA hB hxs
  go_enter Try.func5, Try.ntmps5
  go_wp2_with fail
  refine (awake_any _).mono ?_
  rintro e w1 ⟨rfl, hb⟩
  have X1 := Lib.hid (X0.out.below hb)
  have Y1 := Lib.hid (Y0.out.below hb)
  have K1 := Lib.hid (K0.out.later hb)
  have B1 := Lib.hid (B0.out.trans (hb.mono B0.out.size))
  clear X0 Y0 K0 B0 hb
  obtain ⟨c0, c1, c2, c3, c4, c5⟩ := bk6 K1.out
  go_wp2_with fail
  refine (CFw.out _).mono ?_
  rintro e w2 ⟨rfl, hb⟩
  have X2 := Lib.hid (X1.out.below hb)
  have Y2 := Lib.hid (Y1.out.below hb)
  have K2 := Lib.hid (K1.out.later hb)
  have B2 := Lib.hid (B1.out.trans (hb.mono B1.out.size))
  clear X1 Y1 K1 B1 hb
  clear c0 c1 c2 c3 c4 c5
  obtain ⟨c0, c1, c2, c3, c4, c5⟩ := bk6 K2.out
  go_wp2_with fail
  refine (CRe.out _ X2.out).mono ?_
  rintro e w3 ⟨rfl, hb⟩
  have X3 := Lib.hid (X2.out.below hb)
  have Y3 := Lib.hid (Y2.out.below hb)
  have K3 := Lib.hid (K2.out.later hb)
  have B3 := Lib.hid (B2.out.trans (hb.mono B2.out.size))
  clear X2 Y2 K2 B2 hb
  clear c0 c1 c2 c3 c4 c5
  go_wp2_with fail
  refine (CSg.out _ Y3.out).mono ?_
  rintro e w' ⟨rfl, rfl⟩
  obtain ⟨c0, c1, c2, c3, c4, c5⟩ := bk6 K3.out
  go_wp2_with fail
  refine (CCR.out _ X3.out).mono ?_
  rintro e w4 ⟨⟨gRa, cRa, rfl, hrRa, _⟩, hb⟩
  have X4 := Lib.hid (X3.out.below hb)
  have Y4 := Lib.hid (Y3.out.below hb)
  have K4 := Lib.hid (K3.out.later hb)
  have B4 := Lib.hid (B3.out.trans (hb.mono B3.out.size))
  clear X3 Y3 K3 B3 hb
  have Ra4 := Lib.hid hrRa
  clear hrRa
  clear c0 c1 c2 c3 c4 c5
  go_wp2_with fail
  refine (CPo.out _ _ _ Ra4.out).mono ?_
  rintro e w5 ⟨⟨APa, cPa, rfl, hrPa⟩, hb⟩
  have X5 := Lib.hid (X4.out.below hb)
  have Y5 := Lib.hid (Y4.out.below hb)
  have K5 := Lib.hid (K4.out.later hb)
  have B5 := Lib.hid (B4.out.trans (hb.mono B4.out.size))
  have Ra5 := Lib.hid (Ra4.out.below hb)
  clear X4 Y4 K4 B4 Ra4 hb
  have Pa5 := Lib.hid hrPa
  clear hrPa
  obtain ⟨c0, c1, c2, c3, c4, c5⟩ := bk6 K5.out
  go_wp2_with fail
  refine (CCR.out _ X5.out).mono ?_
  rintro e w6 ⟨⟨gRb, cRb, rfl, hrRb, _⟩, hb⟩
  have X6 := Lib.hid (X5.out.below hb)
  have Y6 := Lib.hid (Y5.out.below hb)
  have K6 := Lib.hid (K5.out.later hb)
  have B6 := Lib.hid (B5.out.trans (hb.mono B5.out.size))
  have Pa6 := Lib.hid (Pa5.out.below hb)
  clear X5 Y5 K5 B5 Pa5 hb
  have Rb6 := Lib.hid hrRb
  clear hrRb
  clear c0 c1 c2 c3 c4 c5
  go_wp2_with fail
  refine (CCI.out _ Y6.out).mono ?_
  rintro e w7 ⟨⟨AXa, cXa, rfl, hrXa⟩, hb⟩
  have X7 := Lib.hid (X6.out.below hb)
  have Y7 := Lib.hid (Y6.out.below hb)
  have K7 := Lib.hid (K6.out.later hb)
  have B7 := Lib.hid (B6.out.trans (hb.mono B6.out.size))
  have Pa7 := Lib.hid (Pa6.out.below hb)
  have Rb7 := Lib.hid (Rb6.out.below hb)
  clear X6 Y6 K6 B6 Pa6 Rb6 hb
  have Xa7 := Lib.hid hrXa
  clear hrXa
  go_wp2_with fail
  refine (CRs.out _ _ _ _ _ Rb7.out Xa7.out).mono ?_
  rintro e w8 ⟨⟨AYa, cYa, rfl, hrYa⟩, hb⟩
  have X8 := Lib.hid (X7.out.below hb)
  have Y8 := Lib.hid (Y7.out.below hb)
  have K8 := Lib.hid (K7.out.later hb)
  have B8 := Lib.hid (B7.out.trans (hb.mono B7.out.size))
  have Pa8 := Lib.hid (Pa7.out.below hb)
  have Rb8 := Lib.hid (Rb7.out.below hb)
  have Xa8 := Lib.hid (Xa7.out.below hb)
  clear X7 Y7 K7 B7 Pa7 Rb7 Xa7 hb
  have Ya8 := Lib.hid hrYa
  clear hrYa
  go_wp2
  go_loopw [9] (fun i wr => ∃ u : Nat, u ≤ l ∧ i = .int .i64 u ∧ Hid (∃ j, wr = w8.drewN j)) (fun i _ => l - (intOf i).toNat)
  case atStart => exact ⟨0, Nat.zero_le _, rfl, 0, rfl⟩
  case round =>
    obtain ⟨u, hu, rfl, HJ⟩ := hrel
    obtain ⟨jj, hj⟩ := HJ.out
    by_cases hlt : u < l
    · have huI : (u : Int) < (l : Int) := by omega
      have hpb := HPB.out u hlt
      have hyv := HYV.out u hlt
      have hpa := fun h => HPA.out (u - 1) h
      obtain ⟨ap, rfl, _, hcp⟩ := (Pa8.out.drewN jj).2 (by omega)
      obtain ⟨ay, rfl, _, hcy⟩ := (Ya8.out.drewN jj).2 (by omega)
      obtain ⟨ax, rfl, _, hcx⟩ := (Y8.out.drewN jj).2 (by omega)
      have hc1 := hcp u hlt
      have hc2 := hcy u hlt
      have hc0 := fun h => hcp (u - 1) h
      have hcd := (bk6 (K8.out.drewN jj)).2.1
      rw [← hj] at hc1 hc2 hcd
      have HCX : Hid (∀ i, i < nn → wr.cell? (ax.add i) = some (.int .i64 (xs.getD i 0))) := Lib.hid (fun i hi => by rw [hj]; exact hcx i hi)
      obtain ⟨p, hp⟩ : ∃ p, P.getD u 0 = p := ⟨_, rfl⟩
      rw [hp] at hc1 hpb hyv
      obtain ⟨y, hy⟩ : ∃ y, Y.getD u 0 = y := ⟨_, rfl⟩
      rw [hy] at hc2 hyv
      have hnn : 0 < nn := by omega
      have hyb : -32767 ≤ y ∧ y ≤ 32767 := by rw [hyv]; exact outF_bd _ _ _
      have hxl := HXL.out
      have HB := btw_three (xs := xs) (p := p) hpb.1
      rw [← hyv] at HB
      have hVb := arnd_bd HXS.out p
      have hVd : ∀ j, arnd xs p j = xs.getD (clmp nn (p / 64 - 1 + (j : Int))) 0 := fun j => by unfold arnd; rw [hxl]
      obtain ⟨a, ha⟩ : ∃ a : Nat, p / 64 = (a : Int) := ⟨(p / 64).toNat, by omega⟩
      have hv1 : xs.getD a 0 = arnd xs p 1 := by rw [hVd, ha]; congr 1; unfold clmp; omega
      have HM0 : Hid (mxJ (arnd xs p) 0 = 0) := Lib.hid rfl
      have HL0 : Hid (loJ (arnd xs p) (arnd xs p 1) (p % 64) 0 = arnd xs p 1) := Lib.hid rfl
      have HH0 : Hid (hiJ (arnd xs p) (arnd xs p 1) (p % 64) 0 = arnd xs p 1) := Lib.hid rfl
      have HMb := Lib.hid (mxJ_bd hVb)
      have HLb := Lib.hid (loJ_bd (f := p % 64) hVb (hVb 1))
      have HHb := Lib.hid (hiJ_bd (f := p % 64) hVb (hVb 1))
      have HMs : Hid (∀ v, mxJ (arnd xs p) (v + 1) = if mxJ (arnd xs p) v < absF (arnd xs p v) then absF (arnd xs p v) else mxJ (arnd xs p) v) := Lib.hid (fun v => rfl)
      have HLs : Hid (∀ v, loJ (arnd xs p) (arnd xs p 1) (p % 64) (v + 1) = if v = 2 ∧ 0 < p % 64 then (if arnd xs p v < loJ (arnd xs p) (arnd xs p 1) (p % 64) v then arnd xs p v else loJ (arnd xs p) (arnd xs p 1) (p % 64) v) else loJ (arnd xs p) (arnd xs p 1) (p % 64) v) := Lib.hid (fun v => rfl)
      have HHs : Hid (∀ v, hiJ (arnd xs p) (arnd xs p 1) (p % 64) (v + 1) = if v = 2 ∧ 0 < p % 64 then (if hiJ (arnd xs p) (arnd xs p 1) (p % 64) v < arnd xs p v then arnd xs p v else hiJ (arnd xs p) (arnd xs p 1) (p % 64) v) else hiJ (arnd xs p) (arnd xs p 1) (p % 64) v) := Lib.hid (fun v => rfl)
      obtain ⟨V, hV⟩ : ∃ V, arnd xs p = V := ⟨_, rfl⟩
      rw [hV] at HB hVb hVd hv1 HM0 HL0 HH0 HMb HLb HHb HMs HLs HHs
      obtain ⟨MX, hMX⟩ : ∃ MX, mxJ V = MX := ⟨_, rfl⟩
      obtain ⟨LO, hLO⟩ : ∃ LO, loJ V (V 1) (p % 64) = LO := ⟨_, rfl⟩
      obtain ⟨HI, hHI⟩ : ∃ HI, hiJ V (V 1) (p % 64) = HI := ⟨_, rfl⟩
      rw [hMX] at HB HM0 HMb HMs
      rw [hLO] at HL0 HLb HLs
      rw [hHI] at HH0 HHb HHs
      obtain ⟨f, hf⟩ : ∃ f, p % 64 = f := ⟨_, rfl⟩
      rw [hf] at HLs HHs
      have hfb : 0 ≤ f ∧ f < 64 := by omega
      have HB' := Lib.hid HB
      have HVb := Lib.hid hVb
      have HVd : Hid (∀ j, V j = xs.getD (clmp nn ((a : Int) - 1 + (j : Int))) 0) := Lib.hid (fun j => by rw [hVd, ha])
      have hx0 := HCX.out a (by omega)
      rw [hv1] at hx0
      have haN : a < nn := by omega
      have haI : (a : Int) < (nn : Int) := by omega
      have hq1 : p.tdiv 64 = (a : Int) := by rw [Int.tdiv_eq_ediv_of_nonneg hpb.1, ha]
      have hq2 : p.tmod 64 = f := by rw [Int.tmod_eq_emod_of_nonneg hpb.1, hf]
      obtain ⟨m1, hm1⟩ : ∃ m1 : Nat, nn = m1 + 1 := ⟨nn - 1, by omega⟩
      have w1 : IntKind.i64.wrap ((nn : Int) - 1) = (m1 : Int) := by rw [show (nn : Int) - 1 = (m1 : Int) by omega]; exact IntWalk.i64_in _ (by omega)
      have w2a : IntKind.i64.wrap (64 * (m1 : Int)) = 64 * (m1 : Int) := IntWalk.i64_in _ (by omega)
      obtain ⟨last, hlast⟩ : ∃ x, 64 * (m1 : Int) = x := ⟨_, rfl⟩
      have w2 : IntKind.i64.wrap (64 * (m1 : Int)) = last := by rw [w2a, hlast]
      have CWp := Lib.hid (fun W => within_any p 0 last W)
      rw [show fromB 0 last [p] = true by rw [fromB_one]; exact decide_eq_true (by omega)] at CWp
      have CWy := Lib.hid (fun W => within_any y (-32767) 32767 W)
      rw [show fromB (-32767) 32767 [y] = true by rw [fromB_one]; exact decide_eq_true hyb] at CWy
      have w3 : IntKind.i64.wrap ((a : Int) - 1) = (a : Int) - 1 := IntWalk.i64_in _ (by omega)
      have w4 : IntKind.i64.wrap ((a : Int) + 2) = (a : Int) + 2 := IntWalk.i64_in _ (by omega)
      have w5 : IntKind.i64.wrap ((a : Int) + 1) = (a : Int) + 1 := IntWalk.i64_in _ (by omega)
      have HJ' := Lib.hid hj
      have HNM := Lib.hid hm1
      by_cases hu0 : u = 0
      · have huz : ¬ (0 : Int) < (u : Int) := by omega
        have huzN : ¬ 0 < u := by omega
        have hpp : True := trivial
        clear hcp hcy hcx hc0 hpa hj HJ hV hMX hLO hHI HB hVb hVd hv1 hyv hp hy w2a hm1 hlast hf ha hxl hu0
        go_wp2
        go_quiet ((first | (go_at_call 18; with_reducible exact quietP (CWp.out _)) | (go_at_call 18; with_reducible exact quietP (CWy.out _))))
        go_wp2
        clear hpp
        go_quiet (fail)
        go_wp2
        clear hx0
        go_loop [11, 12, 13, 14] (fun lo hi mo kv => ∃ v : Nat, v ≤ 4 ∧ kv = .int .i64 ((a : Int) - 1 + (v : Int)) ∧ lo = .int .i64 (LO v) ∧ hi = .int .i64 (HI v) ∧ mo = .int .i64 (MX v)) (fun _ _ _ kv => a + 4 - (intOf kv + 1).toNat)
        case atStart => exact ⟨0, by omega, by simp, by rw [HL0.out], by rw [HH0.out], by rw [HM0.out]⟩
        case round =>
          obtain ⟨v, hv, rfl, rfl, rfl, rfl⟩ := hrel
          by_cases hv3 : v < 4
          · obtain ⟨ix, hix⟩ : ∃ ix, clmp nn ((a : Int) - 1 + (v : Int)) = ix := ⟨_, rfl⟩
            have hixn : ix < nn := by rw [← hix]; exact clmp_lt hnn _
            have hcx := HCX.out ix hixn
            rw [← hix, ← HVd.out v] at hcx
            rw [hix] at hcx
            have hxi : (ix : Int) = min (m1 : Int) (max 0 ((a : Int) - 1 + (v : Int))) := by rw [← hix]; unfold clmp; have := HNM.out; omega
            obtain ⟨kk, hkk⟩ : ∃ kk, (a : Int) - 1 + (v : Int) = kk := ⟨_, rfl⟩
            have hkk2 : (a : Int) - 1 + ((v + 1 : Nat) : Int) = kk + 1 := by omega
            have hle : kk ≤ (a : Int) + 2 := by omega
            have hkb : -1 ≤ kk := by omega
            rw [hkk] at hxi ⊢
            obtain ⟨k1, hk1⟩ : ∃ k1, max 0 kk = k1 := ⟨_, rfl⟩
            rw [hk1] at hxi
            have e1 : (if 0 < kk then kk else 0) = k1 := by rw [← hk1]; split <;> omega
            have e2 : (if k1 < (m1 : Int) then k1 else (m1 : Int)) = (ix : Int) := by rw [hxi]; split <;> omega
            have w6 : IntKind.i64.wrap (kk + 1) = kk + 1 := IntWalk.i64_in _ (by omega)
            have hixI : (ix : Int) < (nn : Int) := by omega
            have hxv := HVb.out v
            have CSz := Lib.hid (fun W => bsize_any (V v) W (by omega))
            have hms := HMs.out v
            have hls := HLs.out v
            have hhs := HHs.out v
            obtain ⟨x, hx⟩ : ∃ x, V v = x := ⟨_, rfl⟩
            rw [hx] at hcx hxv CSz hms hls hhs
            obtain ⟨sz, hsz⟩ : ∃ sz, absF x = sz := ⟨_, rfl⟩
            rw [hsz] at CSz hms
            obtain ⟨mv, hmv⟩ : ∃ z, MX v = z := ⟨_, rfl⟩
            obtain ⟨mv1, hmv1⟩ : ∃ z, MX (v + 1) = z := ⟨_, rfl⟩
            obtain ⟨lv, hlv⟩ : ∃ z, LO v = z := ⟨_, rfl⟩
            obtain ⟨lv1, hlv1⟩ : ∃ z, LO (v + 1) = z := ⟨_, rfl⟩
            obtain ⟨gv, hgv⟩ : ∃ z, HI v = z := ⟨_, rfl⟩
            obtain ⟨gv1, hgv1⟩ : ∃ z, HI (v + 1) = z := ⟨_, rfl⟩
            rw [hmv, hmv1] at hms
            rw [hlv, hlv1] at hls
            rw [hgv, hgv1] at hhs
            rw [hmv, hlv, hgv]
            have HR1 := Lib.hid hmv1
            have HR2 := Lib.hid hlv1
            have HR3 := Lib.hid hgv1
            have HR4 := Lib.hid hkk2
            have e3 : (if mv < sz then sz else mv) = mv1 := hms.symm
            clear hix hxi hk1 hx hsz hmv hmv1 hlv hlv1 hgv hgv1 hms hkk2
            by_cases hj2 : v = 2
            · have hkq : (kk == (a : Int) + 1) = true := by simp; omega
              clear hkk
              by_cases hf0 : 0 < f
              · have e4 : (if x < lv then x else lv) = lv1 := by have h := hls; rw [if_pos ⟨hj2, hf0⟩] at h; exact h.symm
                have e5 : (if gv < x then x else gv) = gv1 := by have h := hhs; rw [if_pos ⟨hj2, hf0⟩] at h; exact h.symm
                clear hls hhs
                go_wp2_with fail
                refine (CSz.out _).mono ?_
                rintro e w' ⟨rfl, rfl⟩
                go_wp2
                go_round
                case rel => exact ⟨v + 1, by omega, by rw [HR4.out], by rw [HR2.out], by rw [HR3.out], by rw [HR1.out]⟩
                case measure => simp [intOf]; omega
              · have e4 : lv1 = lv := by rw [hls, if_neg (fun h => hf0 h.2)]
                have e5 : gv1 = gv := by rw [hhs, if_neg (fun h => hf0 h.2)]
                have HE4 := Lib.hid e4
                have HE5 := Lib.hid e5
                clear hls hhs e4 e5
                go_wp2_with fail
                refine (CSz.out _).mono ?_
                rintro e w' ⟨rfl, rfl⟩
                go_wp2
                go_round
                case rel => exact ⟨v + 1, by omega, by rw [HR4.out], by rw [HR2.out, HE4.out], by rw [HR3.out, HE5.out], by rw [HR1.out]⟩
                case measure => simp [intOf]; omega
            · have hkq : (kk == (a : Int) + 1) = false := by simp; omega
              have e4 : lv1 = lv := by rw [hls, if_neg (fun h => hj2 h.1)]
              have e5 : gv1 = gv := by rw [hhs, if_neg (fun h => hj2 h.1)]
              have HE4 := Lib.hid e4
              have HE5 := Lib.hid e5
              clear hkk hls hhs e4 e5
              go_wp2_with fail
              refine (CSz.out _).mono ?_
              rintro e w' ⟨rfl, rfl⟩
              go_wp2
              go_round
              case rel => exact ⟨v + 1, by omega, by rw [HR4.out], by rw [HR2.out, HE4.out], by rw [HR3.out, HE5.out], by rw [HR1.out]⟩
              case measure => simp [intOf]; omega
          · obtain rfl : v = 4 := by omega
            obtain ⟨kk, hkk⟩ : ∃ kk, (a : Int) - 1 + ((4 : Nat) : Int) = kk := ⟨_, rfl⟩
            have hle : ¬ kk ≤ (a : Int) + 2 := by omega
            have hB := HB'.out
            have hMb := HMb.out 4
            obtain ⟨m4, hm4⟩ : ∃ z, MX 4 = z := ⟨_, rfl⟩
            obtain ⟨l4, hl4⟩ : ∃ z, LO 4 = z := ⟨_, rfl⟩
            obtain ⟨h4, hh4⟩ : ∃ z, HI 4 = z := ⟨_, rfl⟩
            rw [hm4] at hB hMb
            skip
            have hsy := absF_bd y 32767 hyb
            have CSz := Lib.hid (fun W => bsize_any y W (by omega))
            obtain ⟨sy, hsye⟩ : ∃ z, absF y = z := ⟨_, rfl⟩
            rw [hsye] at CSz hsy hB
            have w7 : IntKind.i64.wrap (4 * sy) = 4 * sy := IntWalk.i64_in _ (by omega)
            have w8 : IntKind.i64.wrap (5 * m4) = 5 * m4 := IntWalk.i64_in _ (by omega)
            have w9 : IntKind.i64.wrap (5 * m4 + 4) = 5 * m4 + 4 := IntWalk.i64_in _ (by omega)
            have hcmp : ¬ 5 * m4 + 4 < 4 * sy := by omega
            rw [hkk, hm4, hl4, hh4]
            clear hkk hm4 hl4 hh4 hsye hB
            go_wp2_with fail
            refine (CSz.out _).mono ?_
            rintro e w' ⟨rfl, rfl⟩
            go_wp2
            go_roundw
            case rel => exact ⟨u + 1, by omega, by go_num, by rw [HJ'.out]; exact ⟨_, by simp [World.drewN_drewN]; rfl⟩⟩
            case measure => simp [intOf]; omega
      · have huz : (0 : Int) < (u : Int) := by omega
        have huzN : 0 < u := by omega
        obtain ⟨u1, hu1⟩ : ∃ u1, u - 1 = u1 := ⟨_, rfl⟩
        have hpa1 := hpa (by omega)
        have hpv := hc0 (by omega)
        rw [hu1] at hpa1 hpv
        rw [show u1 + 1 = u by omega, hp] at hpa1
        rw [← hj] at hpv
        obtain ⟨pp, hppe⟩ : ∃ z, P.getD u1 0 = z := ⟨_, rfl⟩
        rw [hppe] at hpa1 hpv
        have hpp : ¬ p < pp := by omega
        have w10 : IntKind.i64.wrap ((u : Int) - 1) = (u1 : Int) := by rw [show (u : Int) - 1 = (u1 : Int) by omega]; exact IntWalk.i64_in _ (by omega)
        have hu1I : (u1 : Int) < (l : Int) := by omega
        have hu1N : u1 < l := by omega
        clear hcp hcy hcx hc0 hpa hj HJ hV hMX hLO hHI HB hVb hVd hv1 hyv hp hy w2a hm1 hlast hf ha hxl hu0 hu1 hpa1 hppe
        go_wp2
        go_quiet ((first | (go_at_call 18; with_reducible exact quietP (CWp.out _)) | (go_at_call 18; with_reducible exact quietP (CWy.out _))))
        go_wp2
        clear hpp hpv
        go_quiet (fail)
        go_wp2
        clear hx0
        go_loop [11, 12, 13, 14] (fun lo hi mo kv => ∃ v : Nat, v ≤ 4 ∧ kv = .int .i64 ((a : Int) - 1 + (v : Int)) ∧ lo = .int .i64 (LO v) ∧ hi = .int .i64 (HI v) ∧ mo = .int .i64 (MX v)) (fun _ _ _ kv => a + 4 - (intOf kv + 1).toNat)
        case atStart => exact ⟨0, by omega, by simp, by rw [HL0.out], by rw [HH0.out], by rw [HM0.out]⟩
        case round =>
          obtain ⟨v, hv, rfl, rfl, rfl, rfl⟩ := hrel
          by_cases hv3 : v < 4
          · obtain ⟨ix, hix⟩ : ∃ ix, clmp nn ((a : Int) - 1 + (v : Int)) = ix := ⟨_, rfl⟩
            have hixn : ix < nn := by rw [← hix]; exact clmp_lt hnn _
            have hcx := HCX.out ix hixn
            rw [← hix, ← HVd.out v] at hcx
            rw [hix] at hcx
            have hxi : (ix : Int) = min (m1 : Int) (max 0 ((a : Int) - 1 + (v : Int))) := by rw [← hix]; unfold clmp; have := HNM.out; omega
            obtain ⟨kk, hkk⟩ : ∃ kk, (a : Int) - 1 + (v : Int) = kk := ⟨_, rfl⟩
            have hkk2 : (a : Int) - 1 + ((v + 1 : Nat) : Int) = kk + 1 := by omega
            have hle : kk ≤ (a : Int) + 2 := by omega
            have hkb : -1 ≤ kk := by omega
            rw [hkk] at hxi ⊢
            obtain ⟨k1, hk1⟩ : ∃ k1, max 0 kk = k1 := ⟨_, rfl⟩
            rw [hk1] at hxi
            have e1 : (if 0 < kk then kk else 0) = k1 := by rw [← hk1]; split <;> omega
            have e2 : (if k1 < (m1 : Int) then k1 else (m1 : Int)) = (ix : Int) := by rw [hxi]; split <;> omega
            have w6 : IntKind.i64.wrap (kk + 1) = kk + 1 := IntWalk.i64_in _ (by omega)
            have hixI : (ix : Int) < (nn : Int) := by omega
            have hxv := HVb.out v
            have CSz := Lib.hid (fun W => bsize_any (V v) W (by omega))
            have hms := HMs.out v
            have hls := HLs.out v
            have hhs := HHs.out v
            obtain ⟨x, hx⟩ : ∃ x, V v = x := ⟨_, rfl⟩
            rw [hx] at hcx hxv CSz hms hls hhs
            obtain ⟨sz, hsz⟩ : ∃ sz, absF x = sz := ⟨_, rfl⟩
            rw [hsz] at CSz hms
            obtain ⟨mv, hmv⟩ : ∃ z, MX v = z := ⟨_, rfl⟩
            obtain ⟨mv1, hmv1⟩ : ∃ z, MX (v + 1) = z := ⟨_, rfl⟩
            obtain ⟨lv, hlv⟩ : ∃ z, LO v = z := ⟨_, rfl⟩
            obtain ⟨lv1, hlv1⟩ : ∃ z, LO (v + 1) = z := ⟨_, rfl⟩
            obtain ⟨gv, hgv⟩ : ∃ z, HI v = z := ⟨_, rfl⟩
            obtain ⟨gv1, hgv1⟩ : ∃ z, HI (v + 1) = z := ⟨_, rfl⟩
            rw [hmv, hmv1] at hms
            rw [hlv, hlv1] at hls
            rw [hgv, hgv1] at hhs
            rw [hmv, hlv, hgv]
            have HR1 := Lib.hid hmv1
            have HR2 := Lib.hid hlv1
            have HR3 := Lib.hid hgv1
            have HR4 := Lib.hid hkk2
            have e3 : (if mv < sz then sz else mv) = mv1 := hms.symm
            clear hix hxi hk1 hx hsz hmv hmv1 hlv hlv1 hgv hgv1 hms hkk2
            by_cases hj2 : v = 2
            · have hkq : (kk == (a : Int) + 1) = true := by simp; omega
              clear hkk
              by_cases hf0 : 0 < f
              · have e4 : (if x < lv then x else lv) = lv1 := by have h := hls; rw [if_pos ⟨hj2, hf0⟩] at h; exact h.symm
                have e5 : (if gv < x then x else gv) = gv1 := by have h := hhs; rw [if_pos ⟨hj2, hf0⟩] at h; exact h.symm
                clear hls hhs
                go_wp2_with fail
                refine (CSz.out _).mono ?_
                rintro e w' ⟨rfl, rfl⟩
                go_wp2
                go_round
                case rel => exact ⟨v + 1, by omega, by rw [HR4.out], by rw [HR2.out], by rw [HR3.out], by rw [HR1.out]⟩
                case measure => simp [intOf]; omega
              · have e4 : lv1 = lv := by rw [hls, if_neg (fun h => hf0 h.2)]
                have e5 : gv1 = gv := by rw [hhs, if_neg (fun h => hf0 h.2)]
                have HE4 := Lib.hid e4
                have HE5 := Lib.hid e5
                clear hls hhs e4 e5
                go_wp2_with fail
                refine (CSz.out _).mono ?_
                rintro e w' ⟨rfl, rfl⟩
                go_wp2
                go_round
                case rel => exact ⟨v + 1, by omega, by rw [HR4.out], by rw [HR2.out, HE4.out], by rw [HR3.out, HE5.out], by rw [HR1.out]⟩
                case measure => simp [intOf]; omega
            · have hkq : (kk == (a : Int) + 1) = false := by simp; omega
              have e4 : lv1 = lv := by rw [hls, if_neg (fun h => hj2 h.1)]
              have e5 : gv1 = gv := by rw [hhs, if_neg (fun h => hj2 h.1)]
              have HE4 := Lib.hid e4
              have HE5 := Lib.hid e5
              clear hkk hls hhs e4 e5
              go_wp2_with fail
              refine (CSz.out _).mono ?_
              rintro e w' ⟨rfl, rfl⟩
              go_wp2
              go_round
              case rel => exact ⟨v + 1, by omega, by rw [HR4.out], by rw [HR2.out, HE4.out], by rw [HR3.out, HE5.out], by rw [HR1.out]⟩
              case measure => simp [intOf]; omega
          · obtain rfl : v = 4 := by omega
            obtain ⟨kk, hkk⟩ : ∃ kk, (a : Int) - 1 + ((4 : Nat) : Int) = kk := ⟨_, rfl⟩
            have hle : ¬ kk ≤ (a : Int) + 2 := by omega
            have hB := HB'.out
            have hMb := HMb.out 4
            obtain ⟨m4, hm4⟩ : ∃ z, MX 4 = z := ⟨_, rfl⟩
            obtain ⟨l4, hl4⟩ : ∃ z, LO 4 = z := ⟨_, rfl⟩
            obtain ⟨h4, hh4⟩ : ∃ z, HI 4 = z := ⟨_, rfl⟩
            rw [hm4] at hB hMb
            skip
            have hsy := absF_bd y 32767 hyb
            have CSz := Lib.hid (fun W => bsize_any y W (by omega))
            obtain ⟨sy, hsye⟩ : ∃ z, absF y = z := ⟨_, rfl⟩
            rw [hsye] at CSz hsy hB
            have w7 : IntKind.i64.wrap (4 * sy) = 4 * sy := IntWalk.i64_in _ (by omega)
            have w8 : IntKind.i64.wrap (5 * m4) = 5 * m4 := IntWalk.i64_in _ (by omega)
            have w9 : IntKind.i64.wrap (5 * m4 + 4) = 5 * m4 + 4 := IntWalk.i64_in _ (by omega)
            have hcmp : ¬ 5 * m4 + 4 < 4 * sy := by omega
            rw [hkk, hm4, hl4, hh4]
            clear hkk hm4 hl4 hh4 hsye hB
            go_wp2_with fail
            refine (CSz.out _).mono ?_
            rintro e w' ⟨rfl, rfl⟩
            go_wp2
            go_roundw
            case rel => exact ⟨u + 1, by omega, by go_num, by rw [HJ'.out]; exact ⟨_, by simp [World.drewN_drewN]; rfl⟩⟩
            case measure => simp [intOf]; omega
    · obtain rfl : l = u := by omega
      have huI : ¬ (l : Int) < (l : Int) := by omega
      have BB := belowDrewN B8.out jj
      rw [← hj] at BB
      clear hlt hj HJ
      go_wp2
      go_ret
      exact ⟨by simp, BB⟩

end Go.Proofs.Ytepcciodhppbnaa


namespace Go.Proofs.Ytepcciodhppbnaa
open Go.RowKit

theorem between_walk (k d n q s : Int) (A : Option Addr) (m c : Nat) (ns : List (Int × Int)) (B : Option Addr) (nn cb : Nat) (xs : List Int) (w : World) (hr : RdP w A m ns) (hm0 : m ≤ 9223372036854775807) (hA : A = none → m = 0 ∧ c = 0) (hx : RdI w B nn xs) (hn0 : nn ≤ 9223372036854775807) (hB : B = none → nn = 0 ∧ cb = 0) :
    Calls Try.prog 5 #[.agg #[.int .i64 k, .int .i64 d, .int .i64 n, .int .i64 q, .int .i64 s, .slice A m c], .slice B nn cb] w fun e w' => e = .returned (.bool true) ∧ Below w.heap.size w w' := by
  by_cases hm : m ≤ 22
  rotate_left
  · exact btw_far k d n q s A m c ns B nn cb xs w hm hr hx hA hB hn0
  by_cases h64 : nn ≤ 64
  rotate_left
  · exact btw_L k d n q s A m c ns B nn cb xs w hm (by omega) hr hx hA hB hn0
  have CRe := fun W (h : RdP W A m ns) => refRulesErr_any k d n q s A m c ns W h (by omega)
  have CSg := fun W (h : RdI W B nn xs) => refSignalErr_any B nn cb xs W h (by omega)
  by_cases hE : rulC k d n q s m ns = 0
  rotate_left
  · exact btw_D k d n q s A m c ns B nn cb xs w hm h64 _ hE hr hx hA hB hn0 CRe
  rw [hE] at CRe
  by_cases hS : sigE xs = 0
  rotate_left
  · exact btw_S k d n q s A m c ns B nn cb xs w hm h64 _ hS hr hx hA hB hn0 CRe CSg
  rw [hS] at CSg
  obtain ⟨_, hxs⟩ := sigE_zero hS
  have C1 := fun A' c' W (h : RdN W A' m ns) => PositionsOf_01 k d n q s A' m c' ns nn W h (by omega) (by omega) hE
  have C2 := fun A' c' B' d' W (h : RdN W A' m ns) (h2 : RdI W B' nn xs) => Resampled_01 k d n q s A' m c' ns B' nn d' xs W h (by omega) h2 hE hS
  obtain ⟨hd, hpk⟩ := rulC_zero hE
  have hpos : ∀ i : Nat, 0 ≤ ((if k = 0 then opR0 n q else opR1 s ns) i).1 := fun i => by
    rcases hpk with ⟨rfl, hn, hq, rfl, rfl⟩ | ⟨rfl, hM, hs, rfl, rfl⟩
    · rw [if_pos rfl]; exact Int.ediv_nonneg (Int.mul_nonneg (by omega) (by omega)) (by omega)
    · rw [if_neg (by decide)]; exact posR_nonneg hM
  have hmono : ∀ i : Nat, ((if k = 0 then opR0 n q else opR1 s ns) (i + 1)).2 = 0 → ((if k = 0 then opR0 n q else opR1 s ns) i).1 ≤ ((if k = 0 then opR0 n q else opR1 s ns) (i + 1)).1 := fun i h => by
    rcases hpk with ⟨rfl, hn, hq, rfl, rfl⟩ | ⟨rfl, hM, hs, rfl, rfl⟩
    · rw [if_pos rfl]; exact opR0_mono hn.1 hq.1 i
    · rw [if_neg (by decide)] at h ⊢; exact opR1_mono hM hs.1 i h
  have h2 := posOut_two (if k = 0 then opR0 n q else opR1 s ns) (64 * ((nn : Int) - 1))
  have hmem : ∀ p ∈ (posOut (if k = 0 then opR0 n q else opR1 s ns) (64 * ((nn : Int) - 1))).1, 0 ≤ p ∧ p ≤ 64 * ((nn : Int) - 1) := fun p hp => by
    obtain ⟨h1, i, rfl⟩ := posOut_mem hp
    exact ⟨hpos i, h1⟩
  have hasc := posOut_asc (last := 64 * ((nn : Int) - 1)) hmono
  obtain ⟨⟨L, E⟩, hL⟩ : ∃ x, posOut (if k = 0 then opR0 n q else opR1 s ns) (64 * ((nn : Int) - 1)) = x := ⟨_, rfl⟩
  rw [hL] at C1 C2 h2 hmem hasc
  rcases h2 with ⟨h3, h4⟩ | h3
  rotate_left
  · injection h3 with h3 h4
    subst h3 h4
    exact btw_M k d n q s A m c ns B nn cb xs w hm h64 hr hx hA hB hn0 CRe CSg (fun A' c' W h => (C1 A' c' W h).mono fun e w' ho => ho.rd rfl) (fun A' c' B' d' W h h2 => (C2 A' c' B' d' W h h2).mono fun e w' ho => ho.rd rfl)
  · simp only at h3 h4 hasc
    subst h3
    have hgm : ∀ i, i < L.length → 0 ≤ L.getD i 0 ∧ L.getD i 0 ≤ 64 * ((nn : Int) - 1) := fun i hi => hmem _ (by rw [List.getD_eq_getElem?_getD, List.getElem?_eq_getElem hi]; exact List.getElem_mem hi)
    have hyv : ∀ i, i < L.length → (L.map (outF d xs)).getD i 0 = outF d xs (L.getD i 0) := fun i hi => by simp [List.getD_eq_getElem?_getD, List.getElem?_eq_getElem hi]
    have e : resOut (outF d xs) (L, 0) = (L.map (outF d xs), 0) := rfl
    rw [e] at C2
    rcases hd with rfl | rfl
    · exact btw_ok1 k n q s A m c ns B nn cb xs w hm h64 hr hx hA hB hxs L.length L _ h4 CRe CSg (fun A' c' W h => (C1 A' c' W h).mono fun e w' ho => ho.rd rfl) (fun A' c' B' d' W h h2 => (C2 A' c' B' d' W h h2).mono fun e w' ho => ho.rd (by rw [List.length_map])) hgm hasc hyv
    · exact btw_ok3 k n q s A m c ns B nn cb xs w hm h64 hr hx hA hB hxs L.length L _ h4 CRe CSg (fun A' c' W h => (C1 A' c' W h).mono fun e w' ho => ho.rd rfl) (fun A' c' B' d' W h h2 => (C2 A' c' B' d' W h h2).mono fun e w' ho => ho.rd (by rw [List.length_map])) hgm hasc hyv

end Go.Proofs.Ytepcciodhppbnaa

