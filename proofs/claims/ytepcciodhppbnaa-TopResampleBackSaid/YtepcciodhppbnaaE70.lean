import Derived.Test.YtepcciodhppbnaaE50

namespace Go.Proofs.Ytepcciodhppbnaa
open Go.RowKit

/-! ### there and back -/
theorem posOut_of {opv : Nat → Int × Int} {last : Int} {K : Nat} (hK : K < 2001) (h1 : ∀ i, i < K → goodAt opv last i) (h2 : ¬ goodAt opv last K) : posOut opv last = ((List.range K).map (fun k => (opv k).1), 0) := by
  have e : stopAt opv last 0 2001 = K := stopAt_eq (fun i _ hi => h1 i hi) (Nat.zero_le _) (by omega) (fun _ => h2)
  unfold posOut
  rw [e, if_neg (by omega)]
theorem clmp_nat {n i : Nat} (h : i < n) : clmp n (i : Int) = i := by unfold clmp; omega
theorem outV_mul {x den : Int} (hd : 0 < den) (hx : -32767 ≤ x ∧ x ≤ 32767) : outV (den * x) den = x := by
  unfold outV
  have e : 2 * (den * x) + den = den + x * (2 * den) := by
    have : x * (2 * den) = 2 * (den * x) := by rw [Int.mul_comm x, Int.mul_assoc]
    omega
  have e2 : (2 * (den * x) + den) / (2 * den) = x := by
    rw [e, Int.add_mul_ediv_right _ _ (by omega), Int.ediv_eq_zero_of_lt (by omega) (by omega)]
    omega
  rw [e2]
  omega
theorem outF_at {d : Int} (hd : d = 1 ∨ d = 3) {xs : List Int} (hx : ∀ x ∈ xs, -32767 ≤ x ∧ x ≤ 32767) {i : Nat} (hi : i < xs.length) : outF d xs (64 * (i : Int)) = xs.getD i 0 := by
  have h1 : (64 * (i : Int)) % 64 = 0 := by omega
  have h2 : (64 * (i : Int)) / 64 = (i : Int) := by omega
  have hb := getD_bd (xs := xs) (A := 32767) (by omega) hx i
  unfold outF
  rcases hd with rfl | rfl
  · rw [if_pos rfl]
    have e : vnum1 xs (64 * (i : Int)) = 64 * xs.getD i 0 := by
      unfold vnum1
      rw [h1, h2]
      have e0 : clmp xs.length ((i : Int) + ((0 : Nat) : Int)) = i := by rw [show (i : Int) + ((0 : Nat) : Int) = (i : Int) by omega]; exact clmp_nat hi
      simp only [vsum, e0, wts1]
      simp
    rw [e]
    exact outV_mul (by omega) hb
  · rw [if_neg (by decide)]
    have e : vnum3 xs (64 * (i : Int)) = 1572864 * xs.getD i 0 := by
      unfold vnum3
      rw [h1, h2]
      have e0 : clmp xs.length ((i : Int) - 1 + ((1 : Nat) : Int)) = i := by rw [show (i : Int) - 1 + ((1 : Nat) : Int) = (i : Int) by omega]; exact clmp_nat hi
      simp only [vsum, e0, wts3]
      simp
    rw [e]
    exact outV_mul (by omega) hb
theorem outF_bd (d : Int) (xs : List Int) (q : Int) : -32767 ≤ outF d xs q ∧ outF d xs q ≤ 32767 := by
  unfold outF
  split <;> (unfold outV; omega)
/-- A signal, resampled finely. -/
def fineL (d : Int) (xs : List Int) (N n : Nat) : List Int := if n = 0 then [] else (List.range (N * (n - 1) + 1)).map fun k : Nat => outF d xs (64 * (k : Int) * 1 / (N : Int))
theorem fine_len (d : Int) (xs : List Int) (N n : Nat) : (fineL d xs N n).length = if n = 0 then 0 else N * (n - 1) + 1 := by
  unfold fineL
  split <;> simp
theorem fine_bd (d : Int) (xs : List Int) (N n : Nat) : ∀ y ∈ fineL d xs N n, -32767 ≤ y ∧ y ≤ 32767 := by
  intro y hy
  unfold fineL at hy
  split at hy
  · simp at hy
  · obtain ⟨k, _, rfl⟩ := List.mem_map.1 hy
    exact outF_bd d xs _
theorem div_pow {N m : Nat} (hm : N * m = 64) (hN : 0 < N) (k : Nat) : 64 * (k : Int) * 1 / (N : Int) = ((m * k : Nat) : Int) := by
  have e : 64 * (k : Int) * 1 = ((m * k : Nat) : Int) * (N : Int) := by
    have h : 64 * k * 1 = m * k * N := by
      rw [← hm, Nat.mul_one, Nat.mul_comm N m, Nat.mul_assoc, Nat.mul_assoc, Nat.mul_comm N k]
    have := congrArg (fun z : Nat => (z : Int)) h
    simpa using this
  rw [e, Int.mul_ediv_cancel _ (by omega)]
theorem fine_at {d : Int} (hd : d = 1 ∨ d = 3) {xs : List Int} (hx : ∀ x ∈ xs, -32767 ≤ x ∧ x ≤ 32767) {N m n : Nat} (hm : N * m = 64) (hN : 0 < N) (hn : xs.length = n) {i : Nat} (hi : i < n) : (fineL d xs N n).getD (N * i) 0 = xs.getD i 0 := by
  have h1 : N * i < N * (n - 1) + 1 := by
    have : N * i ≤ N * (n - 1) := Nat.mul_le_mul_left N (by omega)
    omega
  have h2 : ((m * (N * i) : Nat) : Int) = 64 * (i : Int) := by
    rw [← Nat.mul_assoc, Nat.mul_comm m N, hm]; simp
  unfold fineL
  rw [if_neg (by omega)]
  simp only [List.getD_eq_getElem?_getD, List.getElem?_map, List.getElem?_range h1, Option.map_some, Option.getD_some]
  rw [div_pow hm hN, h2, outF_at hd hx (by omega), List.getD_eq_getElem?_getD]
theorem fine_res {d : Int} {xs : List Int} {N m n : Nat} (hm : N * m = 64) (hN : 0 < N) (hN16 : N ≤ 16) (hn : n ≤ 24) : resOut (outF d xs) (posOut (opR0 1 (N : Int)) (64 * ((n : Int) - 1))) = (fineL d xs N n, 0) := by
  have hm0 : 0 < m := by rcases Nat.eq_zero_or_pos m with h | h; · rw [h] at hm; omega
                         · exact h
  have key : ∀ k : Nat, (opR0 1 (N : Int) k).1 = ((m * k : Nat) : Int) := fun k => div_pow hm hN k
  rcases Nat.eq_zero_or_pos n with rfl | hn0
  · rw [posOut_of (K := 0) (by omega) (fun i hi => by omega) (by
      rintro ⟨_, h2⟩
      rw [key] at h2
      omega)]
    simp [resOut, fineL]
  · have hb : N * (n - 1) ≤ 16 * 23 := Nat.mul_le_mul hN16 (by omega)
    have hml : 64 * ((n : Int) - 1) = ((m * (N * (n - 1)) : Nat) : Int) := by
      rw [← Nat.mul_assoc, Nat.mul_comm m N, hm]
      have : ((64 * (n - 1) : Nat) : Int) = 64 * ((n : Int) - 1) := by omega
      exact this.symm
    rw [posOut_of (K := N * (n - 1) + 1) (by omega) (fun i hi => ⟨rfl, by
        rw [key, hml]
        exact Int.ofNat_le.2 (Nat.mul_le_mul_left m (by omega))⟩) (by
      rintro ⟨_, h2⟩
      rw [key, hml] at h2
      have h3 := Int.ofNat_le.1 h2
      have h4 := Nat.le_of_mul_le_mul_left h3 hm0
      omega)]
    unfold resOut fineL
    rw [if_pos rfl, if_neg (by omega), List.map_map]
    rfl
theorem back_res {d : Int} (hd : d = 1 ∨ d = 3) {xs : List Int} (hx : ∀ x ∈ xs, -32767 ≤ x ∧ x ≤ 32767) {N m n l : Nat} (hm : N * m = 64) (hN : 0 < N) (hN16 : N ≤ 16) (hn : xs.length = n) (hn24 : n ≤ 24) (hl : (fineL d xs N n).length = l) :
    resOut (outF d (fineL d xs N n)) (posOut (opR0 (N : Int) 1) (64 * ((l : Int) - 1))) = (xs, 0) := by
  have key : ∀ k : Nat, (opR0 (N : Int) 1 k).1 = ((64 * (N * k) : Nat) : Int) := fun k => by
    show 64 * (k : Int) * (N : Int) / 1 = _
    rw [Int.ediv_one, Int.mul_assoc, Int.mul_comm (k : Int)]
    simp
  have hfl := fine_len d xs N n
  rw [hl] at hfl
  rcases Nat.eq_zero_or_pos n with rfl | hn0
  · rw [if_pos rfl] at hfl
    subst hfl
    have hxe : xs = [] := List.eq_nil_of_length_eq_zero hn
    subst hxe
    rw [posOut_of (K := 0) (by omega) (fun i hi => by omega) (by
      rintro ⟨_, h2⟩
      rw [key] at h2
      omega)]
    simp [resOut]
  · rw [if_neg (by omega)] at hfl
    have hml : 64 * ((l : Int) - 1) = ((64 * (N * (n - 1)) : Nat) : Int) := by rw [hfl]; simp
    rw [posOut_of (K := n) (by omega) (fun i hi => ⟨rfl, by
        rw [key, hml]
        exact Int.ofNat_le.2 (Nat.mul_le_mul_left 64 (Nat.mul_le_mul_left N (by omega)))⟩) (by
      rintro ⟨_, h2⟩
      rw [key, hml] at h2
      have h3 := Int.ofNat_le.1 h2
      have h4 := Nat.le_of_mul_le_mul_left h3 (by omega : 0 < 64)
      have h5 := Nat.le_of_mul_le_mul_left h4 hN
      omega)]
    unfold resOut
    rw [if_pos rfl, List.map_map]
    refine Prod.ext ?_ rfl
    apply List.ext_getElem?
    intro i
    by_cases hi : i < n
    · have h1 : N * i < (fineL d xs N n).length := by
        rw [hl, hfl]
        have : N * i ≤ N * (n - 1) := Nat.mul_le_mul_left N (by omega)
        omega
      have h2 : outF d (fineL d xs N n) ((opR0 (N : Int) 1 i).1) = xs.getD i 0 := by
        rw [key, show ((64 * (N * i) : Nat) : Int) = 64 * ((N * i : Nat) : Int) by simp, outF_at hd (fine_bd d xs N n) h1, fine_at hd hx hm hN hn hi]
      simp only [List.getElem?_map, List.getElem?_range hi, Option.map_some, Function.comp, h2]
      rw [List.getD_eq_getElem?_getD, List.getElem?_eq_getElem (by omega)]
      rfl
    · rw [List.getElem?_eq_none (by simp; omega), List.getElem?_eq_none (by show xs.length ≤ i; omega)]
theorem Resampled_ratio {d : Int} (hd : d = 1 ∨ d = 3) {p q : Int} (hp : 1 ≤ p ∧ p ≤ 1000) (hq : 1 ≤ q ∧ q ≤ 1000) (B : Option Addr) (n cb : Nat) (xs L : List Int) (w : World) (hx : RdI w B n xs) (hsig : sigE xs = 0) (h : resOut (outF d xs) (posOut (opR0 p q) (64 * ((n : Int) - 1))) = (L, 0)) :
    Calls Try.prog 22 #[.agg #[.int .i64 0, .int .i64 d, .int .i64 p, .int .i64 q, .int .i64 0, .slice none 0 0], .slice B n cb] w (OwnRes w 0 L) := by
  have hr : ratE p q = 0 := by
    have h2 : rngE 1 1000 [p, q] = 0 := by rw [rngE_two, if_pos (by omega)]
    simp [ratE, firstNZ, h2]
  have hpos : ∀ k : Nat, 0 ≤ (opR0 p q k).1 := fun k => Int.ediv_nonneg (Int.mul_nonneg (by omega) (by omega)) (by omega)
  rcases hd with rfl | rfl
  · have := Resampled1_ok 0 p q 0 none 0 0 B n cb xs (opR0 p q) w hx hsig hpos (fun W _ => by have := CheckRules01_any p q none 0 W; rwa [hr] at this) (fun k W hk _ _ => outPos0_any 1 p q none 0 k W (by omega) hp hq)
    rwa [h] at this
  · have := Resampled3_ok 0 p q 0 none 0 0 B n cb xs (opR0 p q) w hx hsig hpos (fun W _ => by have := CheckRules03_any p q none 0 W; rwa [hr] at this) (fun k W hk _ _ => outPos0_any 3 p q none 0 k W (by omega) hp hq)
    rwa [h] at this

end Go.Proofs.Ytepcciodhppbnaa
