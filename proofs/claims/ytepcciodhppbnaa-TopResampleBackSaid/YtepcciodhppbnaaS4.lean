import Derived.Test.YtepcciodhppbnaaS2
import Derived.Test.YtepcciodhppbnaaS3
import Derived.Test.YtepcciodhppbnaaE70

namespace Go.Proofs.Ytepcciodhppbnaa
open Go.RowKit

/-! ### the time at a position -/
theorem holdsQ_no {t : Int} {ns : List (Int × Int)} {x : Nat} (h : t < (ns.getD x (0, 0)).1 ∨ (ns.getD (x + 1) (0, 0)).1 < t) : holdsQ t ns x = false := by
  unfold holdsQ
  rw [Bool.and_eq_false_iff]
  rcases h with h | h
  · exact .inl (decide_eq_false (by omega))
  · exact .inr (decide_eq_false (by omega))
theorem holdsQ_yes {t : Int} {ns : List (Int × Int)} {x : Nat} (h1 : (ns.getD x (0, 0)).1 ≤ t) (h2 : t ≤ (ns.getD (x + 1) (0, 0)).1) : holdsQ t ns x = true := by
  unfold holdsQ
  rw [decide_eq_true h1, decide_eq_true h2]; rfl
theorem timR_at {t : Int} {ns : List (Int × Int)} (hE : (mapR ns).2 = 0) {p : Nat} (hp : p + 1 < ns.length) (hbefore : ∀ j, j < p → (ns.getD (j + 1) (0, 0)).1 < t) (h1 : (ns.getD p (0, 0)).1 ≤ t) (h2 : t ≤ (ns.getD (p + 1) (0, 0)).1) :
    timR t ns = (timLo (ns.getD p (0, 0)).1 (ns.getD p (0, 0)).2 (ns.getD (p + 1) (0, 0)).1 (ns.getD (p + 1) (0, 0)).2 t, timHi (ns.getD p (0, 0)).1 (ns.getD p (0, 0)).2 (ns.getD (p + 1) (0, 0)).1 (ns.getD (p + 1) (0, 0)).2 t, 0) := by
  have hf : findQ t ns 0 (ns.length - 1) = some (0 + p) := findQ_some (fun x _ hx => holdsQ_no (.inr (hbefore x (by omega)))) (by omega) (by rw [Nat.zero_add]; exact holdsQ_yes h1 h2)
  rw [Nat.zero_add] at hf
  unfold timR
  rw [if_pos hE, hf]
theorem first_pieceQ {t : Int} {ns : List (Int × Int)} : ∀ (k : Nat), 0 < k → k < ns.length → (ns.getD 0 (0, 0)).1 ≤ t → t ≤ (ns.getD k (0, 0)).1 → ∃ p, p + 1 ≤ k ∧ (∀ j, j < p → (ns.getD (j + 1) (0, 0)).1 < t) ∧ (ns.getD p (0, 0)).1 ≤ t ∧ t ≤ (ns.getD (p + 1) (0, 0)).1
  | 0, h, _, _, _ => absurd h (by omega)
  | k + 1, _, hk, h0, h1 => by
    by_cases hk0 : k = 0
    · subst hk0
      exact ⟨0, by omega, fun j hj => absurd hj (by omega), h0, h1⟩
    · by_cases h2 : t ≤ (ns.getD k (0, 0)).1
      · obtain ⟨p, hp, hb, ha, hc⟩ := first_pieceQ k (by omega) (by omega) h0 h2
        exact ⟨p, by omega, hb, ha, hc⟩
      · by_cases hall : ∀ j, j < k → (ns.getD (j + 1) (0, 0)).1 < t
        · exact ⟨k, by omega, hall, by omega, h1⟩
        · have : ∃ j, j < k ∧ t ≤ (ns.getD (j + 1) (0, 0)).1 := by
            refine Classical.byContradiction fun h => hall fun j hj => ?_
            refine Classical.byContradiction fun h' => h ⟨j, hj, by omega⟩
          obtain ⟨j, hj, hj2⟩ := this
          obtain ⟨p, hp, hb, ha, hc⟩ := first_pieceQ (j + 1) (by omega) (by omega) h0 hj2
          exact ⟨p, by omega, hb, ha, hc⟩
theorem timLo_start {x1 x2 y1 y2 : Int} : timLo x1 x2 y1 y2 x1 = x2 := by unfold timLo timP; simp
theorem timLo_end {x1 x2 y1 y2 : Int} (h : x1 < y1) : timLo x1 x2 y1 y2 y1 = y2 := by
  unfold timLo timP
  rw [Int.mul_ediv_cancel _ (by omega)]; omega
/-- The time at a position by whichever piece has it. -/
theorem timR_piece {i : Int} {ns : List (Int × Int)} (hE : (mapR ns).2 = 0) {p : Nat} (hp : p + 1 < ns.length) (h1 : (ns.getD p (0, 0)).1 ≤ i) (h2 : i ≤ (ns.getD (p + 1) (0, 0)).1) :
    (timR i ns).1 = timLo (ns.getD p (0, 0)).1 (ns.getD p (0, 0)).2 (ns.getD (p + 1) (0, 0)).1 (ns.getD (p + 1) (0, 0)).2 i := by
  obtain ⟨hok, hl2, hl20⟩ := mapR_ok hE
  have h0 : (ns.getD 0 (0, 0)).1 ≤ i := by
    have := nodes_pos_le hok p 0 (by omega)
    rw [Nat.zero_add] at this; omega
  obtain ⟨r, hr, hb, ha, hc⟩ := first_pieceQ (p + 1) (by omega) (by omega) h0 h2
  rw [timR_at hE (by omega) hb ha hc]
  by_cases hrp : r = p
  · subst hrp; rfl
  · have kr := hok r (by omega)
    have kp := hok p (by omega)
    have e3 := nodes_pos_le hok (p - (r + 1)) (r + 1) (by omega)
    rw [show r + 1 + (p - (r + 1)) = p by omega] at e3
    have hri : i = (ns.getD (r + 1) (0, 0)).1 := by omega
    have hpi : i = (ns.getD p (0, 0)).1 := by omega
    have hrp1 : r + 1 = p := by
      refine Classical.byContradiction fun hne => ?_
      have k2 := hok (r + 1) (by omega)
      have e4 := nodes_pos_le hok (p - (r + 1 + 1)) (r + 1 + 1) (by omega)
      rw [show r + 1 + 1 + (p - (r + 1 + 1)) = p by omega] at e4
      omega
    have e5 : timLo (ns.getD r (0, 0)).1 (ns.getD r (0, 0)).2 (ns.getD (r + 1) (0, 0)).1 (ns.getD (r + 1) (0, 0)).2 i = (ns.getD (r + 1) (0, 0)).2 := by rw [hri]; exact timLo_end kr.1.2.1
    have e6 : timLo (ns.getD p (0, 0)).1 (ns.getD p (0, 0)).2 (ns.getD (p + 1) (0, 0)).1 (ns.getD (p + 1) (0, 0)).2 i = (ns.getD p (0, 0)).2 := by rw [hpi]; exact timLo_start
    show timLo _ _ _ _ i = timLo _ _ _ _ i
    rw [e5, e6, hrp1]

/-! ### the speed is undone -/
theorem back_core {r t a b f A B y Q sp : Int} (hf : 0 ≤ f ∧ f < 64) (hA : 64 * A ≤ r * a ∧ r * a < 64 * A + 64) (hB : f = 0 ∨ 64 * B ≤ r * b ∧ r * b < 64 * B + 64)
    (hw : 0 ≤ 64 * t - ((64 - f) * a + f * b)) (hw2 : f = 0 ∧ 64 * t = 64 * a ∨ 64 * t - ((64 - f) * a + f * b) ≤ b - a + 64 ∧ a ≤ b ∧ (64 * B ≤ r * b ∧ r * b < 64 * B + 64) ∧ (-sp ≤ B - A ∧ B - A ≤ sp)) (hsp : 0 ≤ sp)
    (hy : y = (2 * ((64 - f) * A + f * B) + 64) / 128) (hQ : Q = r * t / 64) (hr : -64 ≤ r ∧ r ≤ 64) : -(5 + sp / 64 + absF r / 64) ≤ y - Q ∧ y - Q ≤ 5 + sp / 64 + absF r / 64 := by
  -- the light, in parts
  obtain ⟨w, hwe⟩ : ∃ w, 64 * t - ((64 - f) * a + f * b) = w := ⟨_, rfl⟩
  have e1 : r * (64 * t) = r * ((64 - f) * a + f * b) + r * w := by rw [← Int.mul_add]; congr 1; omega
  have e2 : r * ((64 - f) * a + f * b) = (64 - f) * (r * a) + f * (r * b) := by
    rw [Int.mul_add, ← Int.mul_assoc, ← Int.mul_assoc, Int.mul_comm r (64 - f), Int.mul_comm r f, Int.mul_assoc, Int.mul_assoc]
  have e3 : r * (64 * t) = 64 * (r * t) := by rw [← Int.mul_assoc, Int.mul_comm r 64, Int.mul_assoc]
  have f1 : (64 - f) * (64 * A) ≤ (64 - f) * (r * a) := Int.mul_le_mul_of_nonneg_left hA.1 (by omega)
  have f2 : (64 - f) * (r * a) ≤ (64 - f) * (64 * A + 63) := Int.mul_le_mul_of_nonneg_left (by omega) (by omega)
  have g1 : (64 - f) * (64 * A) = 64 * ((64 - f) * A) := by rw [← Int.mul_assoc, Int.mul_comm (64 - f) 64, Int.mul_assoc]
  have g2 : (64 - f) * (64 * A + 63) = 64 * ((64 - f) * A) + (64 - f) * 63 := by rw [Int.mul_add, g1]
  have g3 : f * (64 * B) = 64 * (f * B) := by rw [← Int.mul_assoc, Int.mul_comm f 64, Int.mul_assoc]
  have g4 : f * (64 * B + 63) = 64 * (f * B) + f * 63 := by rw [Int.mul_add, g3]
  have fb : 64 * (f * B) ≤ f * (r * b) ∧ f * (r * b) ≤ 64 * (f * B) + f * 63 := by
    rcases hB with h0 | hB
    · subst h0; simp
    · have h3 : f * (64 * B) ≤ f * (r * b) := Int.mul_le_mul_of_nonneg_left hB.1 (by omega)
      have h4 : f * (r * b) ≤ f * (64 * B + 63) := Int.mul_le_mul_of_nonneg_left (by omega) (by omega)
      omega
  have rw_bd : -(64 * sp + 63 + 64 * absF r) ≤ r * w ∧ r * w ≤ 64 * sp + 63 + 64 * absF r := by
    rcases hw2 with ⟨h0, h1⟩ | ⟨h1, hab, hB', hs⟩
    · have hw0 : w = 0 := by subst h0; omega
      subst hw0
      have := absF_nonneg r
      simp; omega
    · have hba : r * (b - a) = r * b - r * a := Int.mul_sub ..
      rw [hwe] at hw h1
      rcases (by omega : 0 ≤ r ∨ r ≤ 0) with h | h
      · have m1 : r * 0 ≤ r * w := Int.mul_le_mul_of_nonneg_left hw h
        have m2 : r * w ≤ r * (b - a + 64) := Int.mul_le_mul_of_nonneg_left h1 h
        rw [Int.mul_add] at m2
        have : absF r = r := by unfold absF; rw [if_neg (by omega)]
        omega
      · have m1 : r * w ≤ r * 0 := Int.mul_le_mul_of_nonpos_left h hw
        have m2 : r * (b - a + 64) ≤ r * w := Int.mul_le_mul_of_nonpos_left h h1
        rw [Int.mul_add] at m2
        have : absF r = -r := by unfold absF; split <;> omega
        omega
  have hab := absF_nonneg r
  rw [e2] at e1
  generalize (64 - f) * (r * a) = P1 at *
  generalize f * (r * b) = P2 at *
  generalize (64 - f) * A = V1 at *
  generalize f * B = V2 at *
  generalize r * w = RW at *
  rw [e3] at e1
  generalize r * t = RT at *
  have hr64 : absF r ≤ 64 := by unfold absF; split <;> omega
  generalize absF r = R at *
  omega

end Go.Proofs.Ytepcciodhppbnaa


namespace Go.Proofs.Ytepcciodhppbnaa
open Go.RowKit

theorem mul_lt_cancel {L x y : Int} (hL : 0 < L) (h : L * x < L * y) : x < y := Int.lt_of_mul_lt_mul_left h (by omega)
/-- The light between two samples of a tape along a piece of a map. -/
theorem piece_time {x1 x2 y1 y2 t q a b i f : Int} (hx : 0 ≤ x1 ∧ x1 < y1) (hy : x2 < y2) (ht : x2 ≤ t ∧ t ≤ y2) (hq : q = posLo x1 x2 y1 y2 t) (hi : i = q / 64) (hf : f = q % 64) (hin : i < y1) (ha : a = timLo x1 x2 y1 y2 i) (hb : b = timLo x1 x2 y1 y2 (i + 1)) :
    x1 ≤ i ∧ 0 ≤ 64 * t - ((64 - f) * a + f * b) ∧ 64 * t - ((64 - f) * a + f * b) ≤ b - a + 64 ∧ a ≤ b := by
  rw [posLo_eq hy] at hq
  unfold timLo timP at ha hb
  unfold posP at hq
  obtain ⟨L, hL⟩ : ∃ L, y1 - x1 = L := ⟨_, rfl⟩
  obtain ⟨D, hD⟩ : ∃ D, y2 - x2 = D := ⟨_, rfl⟩
  rw [hL, hD] at hq ha hb
  have hL0 : 0 < L := by omega
  have hD0 : 0 < D := by omega
  -- floors
  obtain ⟨T, hT⟩ : ∃ T, t - x2 = T := ⟨_, rfl⟩
  rw [hT] at hq
  obtain ⟨u, hu⟩ : ∃ u, 64 * (L * T) / D = u := ⟨_, rfl⟩
  have hu1 := Int.mul_ediv_self_le (x := 64 * (L * T)) (k := D) (by omega)
  have hu2 := Int.lt_mul_ediv_self_add (x := 64 * (L * T)) (k := D) hD0
  rw [hu] at hq hu1 hu2
  have hu0 : 0 ≤ u := by
    rw [← hu]
    exact Int.ediv_nonneg (Int.mul_nonneg (by omega) (Int.mul_nonneg (by omega) (by omega))) (by omega)
  have hx1i : x1 ≤ i := by omega
  obtain ⟨j, hj⟩ : ∃ j, i - x1 = j := ⟨_, rfl⟩
  have hj0 : 0 ≤ j := by omega
  have huj : u = 64 * j + f := by omega
  have hfb : 0 ≤ f ∧ f < 64 := by omega
  rw [hj] at ha
  rw [show i + 1 - x1 = j + 1 by omega] at hb
  obtain ⟨a0, ha0⟩ : ∃ z, D * j / L = z := ⟨_, rfl⟩
  obtain ⟨b0, hb0⟩ : ∃ z, D * (j + 1) / L = z := ⟨_, rfl⟩
  have ha1 := Int.mul_ediv_self_le (x := D * j) (k := L) (by omega)
  have ha2 := Int.lt_mul_ediv_self_add (x := D * j) (k := L) hL0
  have hb1 := Int.mul_ediv_self_le (x := D * (j + 1)) (k := L) (by omega)
  have hb2 := Int.lt_mul_ediv_self_add (x := D * (j + 1)) (k := L) hL0
  rw [ha0] at ha ha1 ha2
  rw [hb0] at hb hb1 hb2
  have hD1 : D * (j + 1) = D * j + D := by rw [Int.mul_add, Int.mul_one]
  rw [hD1] at hb1 hb2
  have hab : a0 ≤ b0 := by
    have : L * a0 < L * (b0 + 1) := by rw [Int.mul_add, Int.mul_one]; omega
    have := mul_lt_cancel hL0 this
    omega
  -- what is interpolated
  obtain ⟨W, hW⟩ : ∃ W, 64 * T - ((64 - f) * a0 + f * b0) = W := ⟨_, rfl⟩
  have e64 : 64 * t - ((64 - f) * a + f * b) = W := by
    have e : (64 - f) * a + f * b = (64 - f) * a0 + f * b0 + 64 * x2 := by
      rw [ha, hb, Int.mul_add, Int.mul_add]
      have : (64 - f) * x2 + f * x2 = 64 * x2 := by rw [← Int.add_mul]; congr 1; omega
      omega
    omega
  have g1 : (64 - f) * (L * a0) ≤ (64 - f) * (D * j) := Int.mul_le_mul_of_nonneg_left ha1 (by omega)
  have g2 : f * (L * b0) ≤ f * (D * j + D) := Int.mul_le_mul_of_nonneg_left hb1 (by omega)
  have g3 : (64 - f) * (D * j + 1) ≤ (64 - f) * (L * a0 + L) := Int.mul_le_mul_of_nonneg_left (by omega) (by omega)
  have g4 : f * (D * j + D + 1) ≤ f * (L * b0 + L) := Int.mul_le_mul_of_nonneg_left (by omega) (by omega)
  have h1 : (64 - f) * (L * a0) = L * ((64 - f) * a0) := by rw [← Int.mul_assoc, Int.mul_comm (64 - f) L, Int.mul_assoc]
  have h2 : f * (L * b0) = L * (f * b0) := by rw [← Int.mul_assoc, Int.mul_comm f L, Int.mul_assoc]
  have h3 : (64 - f) * (D * j) + f * (D * j + D) = D * u := by
    rw [Int.mul_add, ← Int.add_assoc, ← Int.add_mul, show 64 - f + f = 64 by omega, huj, Int.mul_add, ← Int.mul_assoc D 64 j, Int.mul_comm D 64, Int.mul_assoc, Int.mul_comm f D]
  have h4 : (64 - f) * (D * j + 1) = (64 - f) * (D * j) + (64 - f) := by rw [Int.mul_add, Int.mul_one]
  have h5 : f * (D * j + D + 1) = f * (D * j + D) + f := by rw [Int.mul_add, Int.mul_one]
  have h6 : (64 - f) * (L * a0 + L) = L * ((64 - f) * a0) + (64 - f) * L := by rw [Int.mul_add, h1]
  have h7 : f * (L * b0 + L) = L * (f * b0) + f * L := by rw [Int.mul_add, h2]
  have h8 : (64 - f) * L + f * L = 64 * L := by rw [← Int.add_mul]; congr 1; omega
  have hLW : L * W = 64 * (L * T) - (L * ((64 - f) * a0) + L * (f * b0)) := by
    rw [← hW, Int.mul_sub, Int.mul_add, ← Int.mul_assoc L 64 T, Int.mul_comm L 64, Int.mul_assoc]
  have k1 : L * (-1) < L * W := by omega
  have k2 : L * W < L * (b0 - a0 + 65) := by
    have e : L * (b0 - a0 + 65) = L * b0 - L * a0 + L * 65 := by rw [Int.mul_add, Int.mul_sub]
    rw [e]; omega
  have m1 := mul_lt_cancel hL0 k1
  have m2 := mul_lt_cancel hL0 k2
  refine ⟨hx1i, by omega, ?_, by omega⟩
  rw [e64, ha, hb]
  omega
theorem out1_eq {xs : List Int} (hx : ∀ x ∈ xs, -32767 ≤ x ∧ x ≤ 32767) {p a b : Int} (hp : 0 ≤ p) (ha : xs.getD (clmp xs.length (p / 64)) 0 = a) (hb : xs.getD (clmp xs.length (p / 64 + 1)) 0 = b) :
    outF 1 xs p = (2 * ((64 - p % 64) * a + (p % 64) * b) + 64) / 128 := by
  have ba := getD_bd (xs := xs) (A := 32767) (by omega) hx (clmp xs.length (p / 64))
  have bb := getD_bd (xs := xs) (A := 32767) (by omega) hx (clmp xs.length (p / 64 + 1))
  rw [ha] at ba
  rw [hb] at bb
  have e : vnum1 xs p = (64 - p % 64) * a + (p % 64) * b := by
    unfold vnum1
    have e0 : clmp xs.length (p / 64 + ((0 : Nat) : Int)) = clmp xs.length (p / 64) := by rw [show p / 64 + ((0 : Nat) : Int) = p / 64 by omega]
    have e1 : clmp xs.length (p / 64 + ((1 : Nat) : Int)) = clmp xs.length (p / 64 + 1) := rfl
    simp only [vsum, e0, e1, wts1, ha, hb]
    simp
  unfold outF
  rw [if_pos rfl]
  unfold outV
  rw [e]
  have hfb : 0 ≤ p % 64 ∧ p % 64 < 64 := by omega
  generalize p % 64 = f at *
  have h1 : (64 - f) * (-32767) ≤ (64 - f) * a := Int.mul_le_mul_of_nonneg_left (by omega) (by omega)
  have h2 : f * (-32767) ≤ f * b := Int.mul_le_mul_of_nonneg_left (by omega) (by omega)
  have h3 : (64 - f) * a ≤ (64 - f) * 32767 := Int.mul_le_mul_of_nonneg_left (by omega) (by omega)
  have h4 : f * b ≤ f * 32767 := Int.mul_le_mul_of_nonneg_left (by omega) (by omega)
  omega
/-- The tape of a straight sound along a map. -/
def tapeL (st r : Int) (ns : List (Int × Int)) (n : Nat) : List Int := (List.range n).map fun i : Nat => st + r * (timR (i : Int) ns).1 / 64
theorem tapeL_len (st r : Int) (ns : List (Int × Int)) (n : Nat) : (tapeL st r ns n).length = n := by simp [tapeL]
theorem tapeL_at (st r : Int) (ns : List (Int × Int)) (n i : Nat) (h : i < n) : (tapeL st r ns n).getD i 0 = st + r * (timR (i : Int) ns).1 / 64 := by
  simp [tapeL, List.getD_eq_getElem?_getD, List.getElem?_range h]
/-- The greatest step of a list. -/
theorem back_bd {ns : List (Int × Int)} {st r t sp : Int} {n : Nat} (hE : (mapR ns).2 = 0) (h0 : (ns.getD 0 (0, 0)).2 ≤ t) (h1 : t ≤ (ns.getD (ns.length - 1) (0, 0)).2) (hn : ((ns.getD (ns.length - 1) (0, 0)).1 + 1) = (n : Int)) (hr : -64 ≤ r ∧ r ≤ 64)
    (hx : ∀ x ∈ tapeL st r ns n, -32767 ≤ x ∧ x ≤ 32767) (hsp : 0 ≤ sp) (hst : ∀ i, i + 1 < n → -sp ≤ (tapeL st r ns n).getD (i + 1) 0 - (tapeL st r ns n).getD i 0 ∧ (tapeL st r ns n).getD (i + 1) 0 - (tapeL st r ns n).getD i 0 ≤ sp) :
    st + r * t / 64 - (5 + sp / 64 + absF r / 64) ≤ outF 1 (tapeL st r ns n) (posR t ns).1 ∧ outF 1 (tapeL st r ns n) (posR t ns).1 ≤ st + r * t / 64 + (5 + sp / 64 + absF r / 64) := by
  obtain ⟨hok, hl2, hl20⟩ := mapR_ok hE
  obtain ⟨p, hp, hb, ha, hc⟩ := first_piece (t := t) (ns := ns) (ns.length - 1) (by omega) (by omega) h0 h1
  have kp := hok p (by omega)
  have hlast := nodes_pos_le hok (ns.length - 1 - (p + 1)) (p + 1) (by omega)
  rw [show p + 1 + (ns.length - 1 - (p + 1)) = ns.length - 1 by omega] at hlast
  have epos : (posR t ns).1 = posLo (ns.getD p (0, 0)).1 (ns.getD p (0, 0)).2 (ns.getD (p + 1) (0, 0)).1 (ns.getD (p + 1) (0, 0)).2 t := by rw [posR_at hE (by omega) hb ha hc]
  have q1 := posLo_mono (t := (ns.getD p (0, 0)).2) (u := t) kp.1.2.1 kp.2.2.1 ha
  have q2 := posLo_mono (t := t) (u := (ns.getD (p + 1) (0, 0)).2) kp.1.2.1 kp.2.2.1 hc
  rw [posLo_start kp.2.2.1] at q1
  rw [posLo_end kp.2.2.1] at q2
  obtain ⟨q, hq⟩ : ∃ q, posLo (ns.getD p (0, 0)).1 (ns.getD p (0, 0)).2 (ns.getD (p + 1) (0, 0)).1 (ns.getD (p + 1) (0, 0)).2 t = q := ⟨_, rfl⟩
  rw [hq] at q1 q2 epos
  rw [epos]
  have hlen := tapeL_len st r ns n
  have hq0 : 0 ≤ q := by omega
  obtain ⟨i, hi⟩ : ∃ i : Nat, q / 64 = (i : Int) := ⟨(q / 64).toNat, by omega⟩
  have hin : i < n := by omega
  have hfb : 0 ≤ q % 64 ∧ q % 64 < 64 := by omega
  have c1 : clmp (tapeL st r ns n).length (q / 64) = i := by rw [hlen, hi]; unfold clmp; omega
  have hA1 := tapeL_at st r ns n i hin
  have hAf : ∀ z : Int, 64 * (z / 64) ≤ z ∧ z < 64 * (z / 64) + 64 := fun z => by omega
  have hti := timR_piece (i := (i : Int)) hE (p := p) (by omega) (by omega) (by omega)
  by_cases hlt : (i : Int) < (ns.getD (p + 1) (0, 0)).1
  · have hin2 : i + 1 < n := by omega
    have c2 : clmp (tapeL st r ns n).length (q / 64 + 1) = i + 1 := by rw [hlen, hi]; unfold clmp; omega
    have hB1 := tapeL_at st r ns n (i + 1) hin2
    have htj := timR_piece (i := ((i + 1 : Nat) : Int)) hE (p := p) (by omega) (by omega) (by omega)
    have ho := out1_eq hx hq0 (a := st + r * (timR (i : Int) ns).1 / 64) (b := st + r * (timR ((i + 1 : Nat) : Int) ns).1 / 64) (by rw [c1]; exact hA1) (by rw [c2]; exact hB1)
    have hs := hst i hin2
    rw [hA1, hB1] at hs
    rw [ho]
    obtain ⟨a, hae⟩ : ∃ a, (timR (i : Int) ns).1 = a := ⟨_, rfl⟩
    obtain ⟨b, hbe⟩ : ∃ b, (timR ((i + 1 : Nat) : Int) ns).1 = b := ⟨_, rfl⟩
    rw [hae] at hs hti ⊢
    rw [hbe] at hs htj ⊢
    have hpt := piece_time (t := t) (a := a) (b := b) ⟨kp.1.1, kp.1.2.1⟩ kp.2.2.1 ⟨ha, hc⟩ hq.symm (i := (i : Int)) (f := q % 64) (by omega) rfl hlt hti (by rw [htj]; congr 1)
    have hbc := back_core (r := r) (t := t) (a := a) (b := b) (f := q % 64) (A := r * a / 64) (B := r * b / 64) (sp := sp) hfb (hAf _) (.inr (hAf _)) hpt.2.1 (.inr ⟨hpt.2.2.1, hpt.2.2.2, hAf _, by omega⟩) hsp rfl rfl hr
    have e : (2 * ((64 - q % 64) * (st + r * a / 64) + q % 64 * (st + r * b / 64)) + 64) / 128 = st + (2 * ((64 - q % 64) * (r * a / 64) + q % 64 * (r * b / 64)) + 64) / 128 := by
      rw [Int.mul_add (64 - q % 64), Int.mul_add (q % 64)]
      have : (64 - q % 64) * st + q % 64 * st = 64 * st := by rw [← Int.add_mul]; congr 1; omega
      generalize (64 - q % 64) * (r * a / 64) = V1
      generalize q % 64 * (r * b / 64) = V2
      omega
    rw [e]
    omega
  · -- at the end of the piece
    have hqe : q = 64 * (ns.getD (p + 1) (0, 0)).1 := by omega
    have hie : (i : Int) = (ns.getD (p + 1) (0, 0)).1 := by omega
    have hf0 : q % 64 = 0 := by omega
    have hae : (timR (i : Int) ns).1 = (ns.getD (p + 1) (0, 0)).2 := by rw [hti, hie]; exact timLo_end kp.1.2.1
    have hte : t = (ns.getD (p + 1) (0, 0)).2 := by
      refine Classical.byContradiction fun hne => ?_
      have hlt2 : t < (ns.getD (p + 1) (0, 0)).2 := by omega
      rw [posLo_eq kp.2.2.1] at hq
      unfold posP at hq
      obtain ⟨D, hD⟩ : ∃ D, (ns.getD (p + 1) (0, 0)).2 - (ns.getD p (0, 0)).2 = D := ⟨_, rfl⟩
      obtain ⟨L, hL⟩ : ∃ L, (ns.getD (p + 1) (0, 0)).1 - (ns.getD p (0, 0)).1 = L := ⟨_, rfl⟩
      obtain ⟨T, hT⟩ : ∃ T, t - (ns.getD p (0, 0)).2 = T := ⟨_, rfl⟩
      rw [hD, hL, hT] at hq
      have h2 := Int.mul_ediv_self_le (x := 64 * (L * T)) (k := D) (by omega)
      have h3 : 64 * (L * T) / D = 64 * L := by omega
      rw [h3] at h2
      have h4 : L * T ≤ L * (D - 1) := Int.mul_le_mul_of_nonneg_left (by omega) (by omega)
      have h5 : D * (64 * L) = 64 * (L * D) := by rw [← Int.mul_assoc, Int.mul_comm D 64, Int.mul_assoc, Int.mul_comm D L]
      have h6 : L * (D - 1) = L * D - L := by rw [Int.mul_sub, Int.mul_one]
      omega
    obtain ⟨b, hb1⟩ : ∃ b, (tapeL st r ns n).getD (clmp (tapeL st r ns n).length (q / 64 + 1)) 0 = b := ⟨_, rfl⟩
    have ho := out1_eq hx hq0 (a := st + r * (timR (i : Int) ns).1 / 64) (b := b) (by rw [c1]; exact hA1) hb1
    rw [ho, hf0, hae, ← hte]
    have hab := absF_nonneg r
    have e : (2 * ((64 - 0) * (st + r * t / 64) + 0 * b) + 64) / 128 = st + r * t / 64 := by
      generalize r * t / 64 = z
      simp only [Int.zero_mul, Int.add_zero, Int.sub_zero]
      omega
    rw [e]
    omega

end Go.Proofs.Ytepcciodhppbnaa


namespace Go.Proofs.Ytepcciodhppbnaa
open Go.RowKit

theorem back_outs {ns : List (Int × Int)} {s : Int} {n K : Nat} (xs : List Int) (hE : (mapR ns).2 = 0) (h00 : (ns.getD 0 (0, 0)).2 = 0) (hs : 1 ≤ s) (hn : ((ns.getD (ns.length - 1) (0, 0)).1 + 1) = (n : Int)) (hK : (ns.getD (ns.length - 1) (0, 0)).2 / s + 1 = (K : Int)) (hK4 : K ≤ 400) :
    resOut (outF 1 xs) (posOut (opR1 s ns) (64 * ((n : Int) - 1))) = ((List.range K).map (fun k : Nat => outF 1 xs (posR ((k : Int) * s) ns).1), 0) ∧ ∀ k : Nat, k < K → (k : Int) * s ≤ (ns.getD (ns.length - 1) (0, 0)).2 := by
  obtain ⟨hok, hl2, hl20⟩ := mapR_ok hE
  obtain ⟨Tl, hTl⟩ : ∃ z, (ns.getD (ns.length - 1) (0, 0)).2 = z := ⟨_, rfl⟩
  have hop : ∀ k : Nat, opR1 s ns k = ((posR ((k : Int) * s) ns).1, (posR ((k : Int) * s) ns).2.2) := fun k => by unfold opR1; rw [h00, Int.zero_add]
  rw [hTl] at hK ⊢
  have hq1 := Int.mul_ediv_self_le (x := Tl) (k := s) (by omega)
  have hq2 := Int.lt_mul_ediv_self_add (x := Tl) (k := s) (by omega)
  rw [show Tl / s = (K : Int) - 1 by omega] at hq1 hq2
  have hkt : ∀ k : Nat, k < K → (k : Int) * s ≤ Tl := fun k hk => by
    have h1 : s * (k : Int) ≤ s * ((K : Int) - 1) := Int.mul_le_mul_of_nonneg_left (by omega) (by omega)
    rw [Int.mul_comm]; omega
  have hgood : ∀ k, k < K → goodAt (opR1 s ns) (64 * ((n : Int) - 1)) k := fun k hk => by
    have ht := hkt k hk
    have ht0 : 0 ≤ (k : Int) * s := Int.mul_nonneg (by omega) (by omega)
    obtain ⟨p, hp, hb, ha, hc⟩ := first_piece (t := (k : Int) * s) (ns := ns) (ns.length - 1) (by omega) (by omega) (by omega) (by omega)
    have hpr := posR_at hE (by omega) hb ha hc
    have kp := hok p (by omega)
    have q2 := posLo_mono (t := (k : Int) * s) (u := (ns.getD (p + 1) (0, 0)).2) kp.1.2.1 kp.2.2.1 hc
    rw [posLo_end kp.2.2.1] at q2
    have hlast := nodes_pos_le hok (ns.length - 1 - (p + 1)) (p + 1) (by omega)
    rw [show p + 1 + (ns.length - 1 - (p + 1)) = ns.length - 1 by omega] at hlast
    unfold goodAt
    rw [hop k, hpr]
    exact ⟨rfl, by show posLo _ _ _ _ _ ≤ _; omega⟩
  have hstop : ¬ goodAt (opR1 s ns) (64 * ((n : Int) - 1)) K := fun h => by
    have h1 := h.1
    have e : (K : Int) * s = s * ((K : Int) - 1) + s := by rw [Int.mul_sub, Int.mul_one, Int.mul_comm]; omega
    rw [hop K, posR_past hE (fun i hi => by
      have := nodes_le hok (ns.length - 1 - (i + 1)) (i + 1) (by omega)
      rw [show i + 1 + (ns.length - 1 - (i + 1)) = ns.length - 1 by omega, hTl] at this
      omega)] at h1
    cases h1
  refine ⟨?_, hkt⟩
  rw [posOut_of (by omega) hgood hstop]
  unfold resOut
  rw [if_pos rfl, List.map_map]
  refine Prod.ext ?_ rfl
  apply List.map_congr_left
  intro k _
  show outF 1 xs (opR1 s ns k).1 = _
  rw [hop k]

end Go.Proofs.Ytepcciodhppbnaa

