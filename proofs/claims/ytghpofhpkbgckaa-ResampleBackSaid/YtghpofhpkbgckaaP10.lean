import Derived.Test.YtghpofhpkbgckaaE50

namespace Go.Proofs.Ytghpofhpkbgckaa
open Go.RowKit

/-! ### there and back -/
theorem posOut_of {opv : Nat → Int × Int} {last : Int} {K : Nat} (hK : K < 2001) (h1 : ∀ i, i < K → goodAt opv last i) (h2 : ¬ goodAt opv last K) : posOut opv last = ((List.range K).map (fun k => (opv k).1), 0) := by
  have e : stopAt opv last 0 2001 = K := stopAt_eq (fun i _ hi => h1 i hi) (Nat.zero_le _) (by omega) (fun _ => h2)
  unfold posOut
  rw [e, if_neg (by omega)]
theorem clmp_nat {n i : Nat} (h : i < n) : clmp n (i : Int) = i := by unfold clmp; omega
theorem outV_mul {x den : Int} (hd : 0 < den) (hx : -32767 ≤ x ∧ x ≤ 32767) : outV (den * x) den = x := by
  unfold outV
  have e : 2 * (den * x) + den = den + x * (2 * den) := by
    have : x * (2 * den) = 2 * (den * x) := by rw [Int.mul_comm x, Int.mul_assoc]
    omega
  have e2 : (2 * (den * x) + den) / (2 * den) = x := by
    rw [e, Int.add_mul_ediv_right _ _ (by omega), Int.ediv_eq_zero_of_lt (by omega) (by omega)]
    omega
  rw [e2]
  omega
theorem outF_at {d : Int} (hd : d = 1 ∨ d = 3) {xs : List Int} (hx : ∀ x ∈ xs, -32767 ≤ x ∧ x ≤ 32767) {i : Nat} (hi : i < xs.length) : outF d xs (64 * (i : Int)) = xs.getD i 0 := by
  have h1 : (64 * (i : Int)) % 64 = 0 := by omega
  have h2 : (64 * (i : Int)) / 64 = (i : Int) := by omega
  have hb := getD_bd (xs := xs) (A := 32767) (by omega) hx i
  unfold outF
  rcases hd with rfl | rfl
  · rw [if_pos rfl]
    have e : vnum1 xs (64 * (i : Int)) = 64 * xs.getD i 0 := by
      unfold vnum1
      rw [h1, h2]
      have e0 : clmp xs.length ((i : Int) + ((0 : Nat) : Int)) = i := by rw [show (i : Int) + ((0 : Nat) : Int) = (i : Int) by omega]; exact clmp_nat hi
      simp only [vsum, e0, wts1]
      simp
    rw [e]
    exact outV_mul (by omega) hb
  · rw [if_neg (by decide)]
    have e : vnum3 xs (64 * (i : Int)) = 1572864 * xs.getD i 0 := by
      unfold vnum3
      rw [h1, h2]
      have e0 : clmp xs.length ((i : Int) - 1 + ((1 : Nat) : Int)) = i := by rw [show (i : Int) - 1 + ((1 : Nat) : Int) = (i : Int) by omega]; exact clmp_nat hi
      simp only [vsum, e0, wts3]
      simp
    rw [e]
    exact outV_mul (by omega) hb
theorem outF_bd (d : Int) (xs : List Int) (q : Int) : -32767 ≤ outF d xs q ∧ outF d xs q ≤ 32767 := by
  unfold outF
  split <;> (unfold outV; omega)
/-- A signal, resampled finely. -/
def fineL (d : Int) (xs : List Int) (N n : Nat) : List Int := if n = 0 then [] else (List.range (N * (n - 1) + 1)).map fun k : Nat => outF d xs (64 * (k : Int) * 1 / (N : Int))
theorem fine_len (d : Int) (xs : List Int) (N n : Nat) : (fineL d xs N n).length = if n = 0 then 0 else N * (n - 1) + 1 := by
  unfold fineL
  split <;> simp
theorem fine_bd (d : Int) (xs : List Int) (N n : Nat) : ∀ y ∈ fineL d xs N n, -32767 ≤ y ∧ y ≤ 32767 := by
  intro y hy
  unfold fineL at hy
  split at hy
  · simp at hy
  · obtain ⟨k, _, rfl⟩ := List.mem_map.1 hy
    exact outF_bd d xs _
theorem div_pow {N m : Nat} (hm : N * m = 64) (hN : 0 < N) (k : Nat) : 64 * (k : Int) * 1 / (N : Int) = ((m * k : Nat) : Int) := by
  have e : 64 * (k : Int) * 1 = ((m * k : Nat) : Int) * (N : Int) := by
    have h : 64 * k * 1 = m * k * N := by
      rw [← hm, Nat.mul_one, Nat.mul_comm N m, Nat.mul_assoc, Nat.mul_assoc, Nat.mul_comm N k]
    have := congrArg (fun z : Nat => (z : Int)) h
    simpa using this
  rw [e, Int.mul_ediv_cancel _ (by omega)]
theorem fine_at {d : Int} (hd : d = 1 ∨ d = 3) {xs : List Int} (hx : ∀ x ∈ xs, -32767 ≤ x ∧ x ≤ 32767) {N m n : Nat} (hm : N * m = 64) (hN : 0 < N) (hn : xs.length = n) {i : Nat} (hi : i < n) : (fineL d xs N n).getD (N * i) 0 = xs.getD i 0 := by
  have h1 : N * i < N * (n - 1) + 1 := by
    have : N * i ≤ N * (n - 1) := Nat.mul_le_mul_left N (by omega)
    omega
  have h2 : ((m * (N * i) : Nat) : Int) = 64 * (i : Int) := by
    rw [← Nat.mul_assoc, Nat.mul_comm m N, hm]; simp
  unfold fineL
  rw [if_neg (by omega)]
  simp only [List.getD_eq_getElem?_getD, List.getElem?_map, List.getElem?_range h1, Option.map_some, Option.getD_some]
  rw [div_pow hm hN, h2, outF_at hd hx (by omega), List.getD_eq_getElem?_getD]
theorem fine_res {d : Int} {xs : List Int} {N m n : Nat} (hm : N * m = 64) (hN : 0 < N) (hN16 : N ≤ 16) (hn : n ≤ 24) : resOut (outF d xs) (posOut (opR0 1 (N : Int)) (64 * ((n : Int) - 1))) = (fineL d xs N n, 0) := by
  have hm0 : 0 < m := by rcases Nat.eq_zero_or_pos m with h | h; · rw [h] at hm; omega
                         · exact h
  have key : ∀ k : Nat, (opR0 1 (N : Int) k).1 = ((m * k : Nat) : Int) := fun k => div_pow hm hN k
  rcases Nat.eq_zero_or_pos n with rfl | hn0
  · rw [posOut_of (K := 0) (by omega) (fun i hi => by omega) (by
      rintro ⟨_, h2⟩
      rw [key] at h2
      omega)]
    simp [resOut, fineL]
  · have hb : N * (n - 1) ≤ 16 * 23 := Nat.mul_le_mul hN16 (by omega)
    have hml : 64 * ((n : Int) - 1) = ((m * (N * (n - 1)) : Nat) : Int) := by
      rw [← Nat.mul_assoc, Nat.mul_comm m N, hm]
      have : ((64 * (n - 1) : Nat) : Int) = 64 * ((n : Int) - 1) := by omega
      exact this.symm
    rw [posOut_of (K := N * (n - 1) + 1) (by omega) (fun i hi => ⟨rfl, by
        rw [key, hml]
        exact Int.ofNat_le.2 (Nat.mul_le_mul_left m (by omega))⟩) (by
      rintro ⟨_, h2⟩
      rw [key, hml] at h2
      have h3 := Int.ofNat_le.1 h2
      have h4 := Nat.le_of_mul_le_mul_left h3 hm0
      omega)]
    unfold resOut fineL
    rw [if_pos rfl, if_neg (by omega), List.map_map]
    rfl
theorem back_res {d : Int} (hd : d = 1 ∨ d = 3) {xs : List Int} (hx : ∀ x ∈ xs, -32767 ≤ x ∧ x ≤ 32767) {N m n l : Nat} (hm : N * m = 64) (hN : 0 < N) (hN16 : N ≤ 16) (hn : xs.length = n) (hn24 : n ≤ 24) (hl : (fineL d xs N n).length = l) :
    resOut (outF d (fineL d xs N n)) (posOut (opR0 (N : Int) 1) (64 * ((l : Int) - 1))) = (xs, 0) := by
  have key : ∀ k : Nat, (opR0 (N : Int) 1 k).1 = ((64 * (N * k) : Nat) : Int) := fun k => by
    show 64 * (k : Int) * (N : Int) / 1 = _
    rw [Int.ediv_one, Int.mul_assoc, Int.mul_comm (k : Int)]
    simp
  have hfl := fine_len d xs N n
  rw [hl] at hfl
  rcases Nat.eq_zero_or_pos n with rfl | hn0
  · rw [if_pos rfl] at hfl
    subst hfl
    have hxe : xs = [] := List.eq_nil_of_length_eq_zero hn
    subst hxe
    rw [posOut_of (K := 0) (by omega) (fun i hi => by omega) (by
      rintro ⟨_, h2⟩
      rw [key] at h2
      omega)]
    simp [resOut]
  · rw [if_neg (by omega)] at hfl
    have hml : 64 * ((l : Int) - 1) = ((64 * (N * (n - 1)) : Nat) : Int) := by rw [hfl]; simp
    rw [posOut_of (K := n) (by omega) (fun i hi => ⟨rfl, by
        rw [key, hml]
        exact Int.ofNat_le.2 (Nat.mul_le_mul_left 64 (Nat.mul_le_mul_left N (by omega)))⟩) (by
      rintro ⟨_, h2⟩
      rw [key, hml] at h2
      have h3 := Int.ofNat_le.1 h2
      have h4 := Nat.le_of_mul_le_mul_left h3 (by omega : 0 < 64)
      have h5 := Nat.le_of_mul_le_mul_left h4 hN
      omega)]
    unfold resOut
    rw [if_pos rfl, List.map_map]
    refine Prod.ext ?_ rfl
    apply List.ext_getElem?
    intro i
    by_cases hi : i < n
    · have h1 : N * i < (fineL d xs N n).length := by
        rw [hl, hfl]
        have : N * i ≤ N * (n - 1) := Nat.mul_le_mul_left N (by omega)
        omega
      have h2 : outF d (fineL d xs N n) ((opR0 (N : Int) 1 i).1) = xs.getD i 0 := by
        rw [key, show ((64 * (N * i) : Nat) : Int) = 64 * ((N * i : Nat) : Int) by simp, outF_at hd (fine_bd d xs N n) h1, fine_at hd hx hm hN hn hi]
      simp only [List.getElem?_map, List.getElem?_range hi, Option.map_some, Function.comp, h2]
      rw [List.getD_eq_getElem?_getD, List.getElem?_eq_getElem (by omega)]
      rfl
    · rw [List.getElem?_eq_none (by simp; omega), List.getElem?_eq_none (by show xs.length ≤ i; omega)]
theorem Resampled_ratio {d : Int} (hd : d = 1 ∨ d = 3) {p q : Int} (hp : 1 ≤ p ∧ p ≤ 1000) (hq : 1 ≤ q ∧ q ≤ 1000) (B : Option Addr) (n cb : Nat) (xs L : List Int) (w : World) (hx : RdI w B n xs) (hsig : sigE xs = 0) (h : resOut (outF d xs) (posOut (opR0 p q) (64 * ((n : Int) - 1))) = (L, 0)) :
    Calls Try.prog 59 #[.agg #[.int .i64 0, .int .i64 d, .int .i64 p, .int .i64 q, .int .i64 0, .slice none 0 0], .slice B n cb] w (OwnRes w 0 L) := by
  have hr : ratE p q = 0 := by
    have h2 : rngE 1 1000 [p, q] = 0 := by rw [rngE_two, if_pos (by omega)]
    simp [ratE, firstNZ, h2]
  have hpos : ∀ k : Nat, 0 ≤ (opR0 p q k).1 := fun k => Int.ediv_nonneg (Int.mul_nonneg (by omega) (by omega)) (by omega)
  rcases hd with rfl | rfl
  · have := Resampled1_ok 0 p q 0 none 0 0 B n cb xs (opR0 p q) w hx hsig hpos (fun W _ => by have := CheckRules01_any p q none 0 W; rwa [hr] at this) (fun k W hk _ _ => outPos0_any 1 p q none 0 k W (by omega) hp hq)
    rwa [h] at this
  · have := Resampled3_ok 0 p q 0 none 0 0 B n cb xs (opR0 p q) w hx hsig hpos (fun W _ => by have := CheckRules03_any p q none 0 W; rwa [hr] at this) (fun k W hk _ _ => outPos0_any 3 p q none 0 k W (by omega) hp hq)
    rwa [h] at this

end Go.Proofs.Ytghpofhpkbgckaa


namespace Go.Proofs.Ytghpofhpkbgckaa
open Go.RowKit

theorem backN_none {w w' : World} {E : Int} {n : Nat} {xs : List Int} {e : Ending} (h : OwnRes w E xs e w') (hn : xs.length = n) : RdResN w E n xs e w' := h.rdN hn
set_option maxRecDepth 100000 in
set_option maxHeartbeats 4000000 in
theorem bkw_far (A : Option Addr) (n c : Nat) (d p : Int) (xs : List Int) (w : World) (h : 24 < n) (hn0 : n ≤ 9223372036854775807)
    : Calls Try.prog 12 #[.slice A n c, .int .i64 d, .int .i64 p] w fun e w' => e = .returned (.bool true) ∧ Below w.heap.size w w' := by
  have h24 : (24 : Int) < (n : Int) := by omega
  have B0 := Lib.hid (Below.refl w.heap.size w)
  go_enter Try.func12, Try.ntmps12
  go_wp2_with fail
  refine (awake_any _).mono ?_
  rintro e w1 ⟨rfl, hb⟩
  have B1 := Lib.hid (B0.out.trans (hb.mono B0.out.size))
  clear B0 hb
  go_wp2
  go_ret
  exact ⟨by simp, B1.out⟩
set_option maxRecDepth 100000 in
set_option maxHeartbeats 4000000 in
theorem bkw_S (A : Option Addr) (n c : Nat) (d p : Int) (xs : List Int) (w : World) (h : n ≤ 24) (Sg : Int) (hS : ¬ Sg = 0) (hr : RdI w A n xs)
    (CSg : ∀ W, RdI W A n xs → Calls Try.prog 19 #[.slice A n c] W fun e w' => e = .returned (.int .i64 Sg) ∧ W = w')
    : Calls Try.prog 12 #[.slice A n c, .int .i64 d, .int .i64 p] w fun e w' => e = .returned (.bool true) ∧ Below w.heap.size w w' := by
  have CSg := Lib.hid CSg
  have dS1 := neT hS
  clear hS
  have h24 : ¬ (24 : Int) < (n : Int) := by omega
  have X0 := Lib.hid hr
  clear hr
  have B0 := Lib.hid (Below.refl w.heap.size w)
  go_enter Try.func12, Try.ntmps12
  go_wp2_with fail
  refine (awake_any _).mono ?_
  rintro e w1 ⟨rfl, hb⟩
  have X1 := Lib.hid (X0.out.below hb)
  have B1 := Lib.hid (B0.out.trans (hb.mono B0.out.size))
  clear X0 B0 hb
  go_wp2_with fail
  refine (CSg.out _ X1.out).mono ?_
  rintro e w' ⟨rfl, rfl⟩
  go_wp2
  go_ret
  exact ⟨by simp, B1.out⟩
set_option maxRecDepth 100000 in
set_option maxHeartbeats 4000000 in
theorem bkw_D (A : Option Addr) (n c : Nat) (d p : Int) (xs : List Int) (w : World) (h : n ≤ 24) (D : Int) (hD : ¬ D = 0) (hr : RdI w A n xs)
    (CSg : ∀ W, RdI W A n xs → Calls Try.prog 19 #[.slice A n c] W fun e w' => e = .returned (.int .i64 0) ∧ W = w')
    (CD : ∀ W, Calls Try.prog 23 #[.int .i64 d] W fun e w' => e = .returned (.int .i64 D) ∧ W = w')
    : Calls Try.prog 12 #[.slice A n c, .int .i64 d, .int .i64 p] w fun e w' => e = .returned (.bool true) ∧ Below w.heap.size w w' := by
  have CSg := Lib.hid CSg
  have CD := Lib.hid CD
  have dD1 := neT hD
  clear hD
  have h24 : ¬ (24 : Int) < (n : Int) := by omega
  have X0 := Lib.hid hr
  clear hr
  have B0 := Lib.hid (Below.refl w.heap.size w)
  go_enter Try.func12, Try.ntmps12
  go_wp2_with fail
  refine (awake_any _).mono ?_
  rintro e w1 ⟨rfl, hb⟩
  have X1 := Lib.hid (X0.out.below hb)
  have B1 := Lib.hid (B0.out.trans (hb.mono B0.out.size))
  clear X0 B0 hb
  go_wp2_with fail
  refine (CSg.out _ X1.out).mono ?_
  rintro e w' ⟨rfl, rfl⟩
  go_wp2_with fail
  refine (CD.out _).mono ?_
  rintro e w' ⟨rfl, rfl⟩
  go_wp2
  go_ret
  exact ⟨by simp, B1.out⟩
set_option maxRecDepth 100000 in
set_option maxHeartbeats 4000000 in
theorem bkw_P (A : Option Addr) (n c : Nat) (d p : Int) (xs : List Int) (w : World) (h : n ≤ 24) (hr : RdI w A n xs)
    (CSg : ∀ W, RdI W A n xs → Calls Try.prog 19 #[.slice A n c] W fun e w' => e = .returned (.int .i64 0) ∧ W = w')
    (CD : ∀ W, Calls Try.prog 23 #[.int .i64 d] W fun e w' => e = .returned (.int .i64 0) ∧ W = w')
    (CWi : ∀ W, Calls Try.prog 20 #[.int .i64 p, .int .i64 0, .int .i64 4] W fun e w' => e = .returned (.bool false) ∧ W = w')
    : Calls Try.prog 12 #[.slice A n c, .int .i64 d, .int .i64 p] w fun e w' => e = .returned (.bool true) ∧ Below w.heap.size w w' := by
  have CSg := Lib.hid CSg
  have CD := Lib.hid CD
  have CWi := Lib.hid CWi
  have h24 : ¬ (24 : Int) < (n : Int) := by omega
  have X0 := Lib.hid hr
  clear hr
  have B0 := Lib.hid (Below.refl w.heap.size w)
  go_enter Try.func12, Try.ntmps12
  go_wp2_with fail
  refine (awake_any _).mono ?_
  rintro e w1 ⟨rfl, hb⟩
  have X1 := Lib.hid (X0.out.below hb)
  have B1 := Lib.hid (B0.out.trans (hb.mono B0.out.size))
  clear X0 B0 hb
  go_wp2_with fail
  refine (CSg.out _ X1.out).mono ?_
  rintro e w' ⟨rfl, rfl⟩
  go_wp2_with fail
  refine (CD.out _).mono ?_
  rintro e w' ⟨rfl, rfl⟩
  go_wp2_with fail
  refine (CWi.out _).mono ?_
  rintro e w' ⟨rfl, rfl⟩
  go_wp2
  go_ret
  exact ⟨by simp, B1.out⟩
set_option maxRecDepth 100000 in
set_option maxHeartbeats 4000000 in
theorem bkw_0_z (A : Option Addr)  (c : Nat) (d : Int) (xs ys : List Int) (w : World)  (hr : RdI w A 0 xs) (hn : 0 ≤ 24) (hA : A = none → 0 = 0 ∧ c = 0)
    (CSg : ∀ W, RdI W A 0 xs → Calls Try.prog 19 #[.slice A 0 c] W fun e w' => e = .returned (.int .i64 0) ∧ W = w')
    (CD : ∀ W, Calls Try.prog 23 #[.int .i64 d] W fun e w' => e = .returned (.int .i64 0) ∧ W = w')
    (CR1 : ∀ B' d' W, RdI W B' 0 xs → Calls Try.prog 59 #[.agg #[.int .i64 0, .int .i64 d, .int .i64 1, .int .i64 1, .int .i64 0, .slice none 0 0], .slice B' 0 d'] W (RdResN W 0 0 ys))
    (CR2 : ∀ B' d' W, RdI W B' 0 ys → Calls Try.prog 59 #[.agg #[.int .i64 0, .int .i64 d, .int .i64 1, .int .i64 1, .int .i64 0, .slice none 0 0], .slice B' 0 d'] W (RdResN W 0 0 xs))
    (HYB : ∀ k, k < 0 → fromB (-32767) 32767 [ys.getD k 0] = true)
    : Calls Try.prog 12 #[.slice A 0 c, .int .i64 d, .int .i64 0] w fun e w' => e = .returned (.bool true) ∧ Below w.heap.size w w' := by
  have CCI : Hid (∀ W, RdI W A 0 xs → Calls Try.prog 18 #[.slice A 0 c] W (RdOne W 0 xs)) := fun W h => (copyInts_any A 0 c xs W hA h (by omega)).mono fun e w' ho => ho.rd h.1
  have CCY : Hid (∀ B' d' W, (B' = none → 0 = 0 ∧ d' = 0) → RdI W B' 0 ys → Calls Try.prog 18 #[.slice B' 0 d'] W (RdOne W 0 ys)) := fun B' d' W hN h => (copyInts_any B' 0 d' ys W hN h (by omega)).mono fun e w' ho => ho.rd h.1
  have CSg := Lib.hid CSg
  have CD := Lib.hid CD
  have CR1 := Lib.hid CR1
  have CR2 := Lib.hid CR2
  have HYB := Lib.hid HYB
  have CWi := Lib.hid (fun W => within_any 0 0 4 W)
  rw [show fromB 0 4 [0] = true by decide] at CWi
  have X0 := Lib.hid hr
  have B0 := Lib.hid (Below.refl w.heap.size w)
  clear hr hA
  go_enter Try.func12, Try.ntmps12
  go_wp2_with fail
  refine (awake_any _).mono ?_
  rintro e w1 ⟨rfl, hb⟩
  have X1 := Lib.hid (X0.out.below hb)
  have B1 := Lib.hid (B0.out.trans (hb.mono B0.out.size))
  clear X0 B0 hb
  go_wp2_with fail
  refine (CSg.out _ X1.out).mono ?_
  rintro e w' ⟨rfl, rfl⟩
  go_wp2_with fail
  refine (CD.out _).mono ?_
  rintro e w' ⟨rfl, rfl⟩
  go_wp2_with fail
  refine (CWi.out _).mono ?_
  rintro e w' ⟨rfl, rfl⟩
  go_wp2_with fail
  refine (CCI.out _ X1.out).mono ?_
  rintro e w2 ⟨⟨AXa, cXa, rfl, hrXa⟩, hb⟩
  have X2 := Lib.hid (X1.out.below hb)
  have B2 := Lib.hid (B1.out.trans (hb.mono B1.out.size))
  clear X1 B1 hb
  have Xa2 := Lib.hid hrXa
  clear hrXa
  go_wp2_with fail
  refine (CR1.out _ _ _ Xa2.out).mono ?_
  rintro e w3 ⟨⟨AYa, cYa, rfl, hrYa, _, hNYa⟩, hb⟩
  have X3 := Lib.hid (X2.out.below hb)
  have B3 := Lib.hid (B2.out.trans (hb.mono B2.out.size))
  have Xa3 := Lib.hid (Xa2.out.below hb)
  clear X2 B2 Xa2 hb
  have Ya3 := Lib.hid hrYa
  have NYa := Lib.hid hNYa
  clear hrYa hNYa
  go_wp2
  go_loop [10] (fun i => i = .int .i64 0) (fun i => 0 - (intOf i).toNat)
  case atStart => rfl
  case round =>
    subst hrel
    go_wp2
    go_loop [11] (fun i => i = .int .i64 0) (fun i => 0 - (intOf i).toNat)
    case atStart => rfl
    case round =>
      subst hrel
      go_wp2_with fail
      refine (CCY.out _ _ _ NYa.out Ya3.out).mono ?_
      rintro e w4 ⟨⟨AYb, cYb, rfl, hrYb⟩, hb⟩
      have X4 := Lib.hid (X3.out.below hb)
      have B4 := Lib.hid (B3.out.trans (hb.mono B3.out.size))
      have Ya4 := Lib.hid (Ya3.out.below hb)
      clear X3 B3 Ya3 hb
      have Yb4 := Lib.hid hrYb
      clear hrYb
      go_wp2_with fail
      refine (CR2.out _ _ _ Yb4.out).mono ?_
      rintro e w5 ⟨⟨AZa, cZa, rfl, hrZa, _, _⟩, hb⟩
      have X5 := Lib.hid (X4.out.below hb)
      have B5 := Lib.hid (B4.out.trans (hb.mono B4.out.size))
      have Ya5 := Lib.hid (Ya4.out.below hb)
      have Yb5 := Lib.hid (Yb4.out.below hb)
      clear X4 B4 Ya4 Yb4 hb
      have Za5 := Lib.hid hrZa
      clear hrZa
      go_wp2_with fail
      refine (ints_same _ _ _ _ _ _ _ Za5.out X5.out (by omega)).mono ?_
      rintro e w' ⟨rfl, kk, rfl⟩
      have X6 := Lib.hid (X5.out.drewN kk)
      have B6 := Lib.hid (belowDrewN B5.out kk)
      have Ya6 := Lib.hid (Ya5.out.drewN kk)
      have Za6 := Lib.hid (Za5.out.drewN kk)
      clear X5 B5 Ya5 Za5
      obtain ⟨w6, hw6⟩ : ∃ W, w5.drewN kk = W := ⟨_, rfl⟩
      rw [hw6] at X6 B6 Ya6 Za6 ⊢
      clear hw6
      go_wp2
      go_ret
      exact ⟨by simp, B6.out⟩
set_option maxRecDepth 100000 in
set_option maxHeartbeats 4000000 in
theorem bkw_0_k (A : Option Addr) (n : Nat) (c : Nat) (d : Int) (xs ys : List Int) (w : World) (l q : Nat) (hq : n = q + 1) (hl : l = 1 * q + 1) (hr : RdI w A n xs) (hn : n ≤ 24) (hA : A = none → n = 0 ∧ c = 0)
    (CSg : ∀ W, RdI W A n xs → Calls Try.prog 19 #[.slice A n c] W fun e w' => e = .returned (.int .i64 0) ∧ W = w')
    (CD : ∀ W, Calls Try.prog 23 #[.int .i64 d] W fun e w' => e = .returned (.int .i64 0) ∧ W = w')
    (CR1 : ∀ B' d' W, RdI W B' n xs → Calls Try.prog 59 #[.agg #[.int .i64 0, .int .i64 d, .int .i64 1, .int .i64 1, .int .i64 0, .slice none 0 0], .slice B' n d'] W (RdResN W 0 l ys))
    (CR2 : ∀ B' d' W, RdI W B' l ys → Calls Try.prog 59 #[.agg #[.int .i64 0, .int .i64 d, .int .i64 1, .int .i64 1, .int .i64 0, .slice none 0 0], .slice B' l d'] W (RdResN W 0 n xs))
    (HYB : ∀ k, k < l → fromB (-32767) 32767 [ys.getD k 0] = true)
    (HYX : ∀ i, i < n → ys.getD (1 * i) 0 = xs.getD i 0)
    : Calls Try.prog 12 #[.slice A n c, .int .i64 d, .int .i64 0] w fun e w' => e = .returned (.bool true) ∧ Below w.heap.size w w' := by
  have CCI : Hid (∀ W, RdI W A n xs → Calls Try.prog 18 #[.slice A n c] W (RdOne W n xs)) := fun W h => (copyInts_any A n c xs W hA h (by omega)).mono fun e w' ho => ho.rd h.1
  have CCY : Hid (∀ B' d' W, (B' = none → l = 0 ∧ d' = 0) → RdI W B' l ys → Calls Try.prog 18 #[.slice B' l d'] W (RdOne W l ys)) := fun B' d' W hN h => (copyInts_any B' l d' ys W hN h (by omega)).mono fun e w' ho => ho.rd h.1
  have CSg := Lib.hid CSg
  have CD := Lib.hid CD
  have CR1 := Lib.hid CR1
  have CR2 := Lib.hid CR2
  have HYB := Lib.hid HYB
  have HYX := Lib.hid HYX
  have CWi := Lib.hid (fun W => within_any 0 0 4 W)
  rw [show fromB 0 4 [0] = true by decide] at CWi
  have X0 := Lib.hid hr
  have B0 := Lib.hid (Below.refl w.heap.size w)
  have h24 : ¬ (24 : Int) < (n : Int) := by omega
  have hn0 : (0 : Int) < (n : Int) := by omega
  have hn0N : 0 < n := by omega
  have hn1 : ((n : Int) == 0) = false := by simp; omega
  have w1 : IntKind.i64.wrap ((n : Int) - 1) = (q : Int) := by rw [show (n : Int) - 1 = (q : Int) by omega]; exact IntWalk.i64_in _ (by omega)
  have w2 : IntKind.i64.wrap (q : Int) = (q : Int) := IntWalk.i64_in _ (by omega)
  have w3 : IntKind.i64.wrap ((q : Int) + 1) = (l : Int) := by rw [show (q : Int) + 1 = (l : Int) by omega]; exact IntWalk.i64_in _ (by omega)
  have h400 : ¬ (400 : Int) < (l : Int) := by omega
  have HQ := Lib.hid (And.intro hq hl)
  have hl4 : l ≤ 400 := by omega
  clear hq hl
  clear hr hA
  go_enter Try.func12, Try.ntmps12
  go_wp2_with fail
  refine (awake_any _).mono ?_
  rintro e w1 ⟨rfl, hb⟩
  have X1 := Lib.hid (X0.out.below hb)
  have B1 := Lib.hid (B0.out.trans (hb.mono B0.out.size))
  clear X0 B0 hb
  go_wp2_with fail
  refine (CSg.out _ X1.out).mono ?_
  rintro e w' ⟨rfl, rfl⟩
  go_wp2_with fail
  refine (CD.out _).mono ?_
  rintro e w' ⟨rfl, rfl⟩
  go_wp2_with fail
  refine (CWi.out _).mono ?_
  rintro e w' ⟨rfl, rfl⟩
  go_wp2_with fail
  refine (CCI.out _ X1.out).mono ?_
  rintro e w2 ⟨⟨AXa, cXa, rfl, hrXa⟩, hb⟩
  have X2 := Lib.hid (X1.out.below hb)
  have B2 := Lib.hid (B1.out.trans (hb.mono B1.out.size))
  clear X1 B1 hb
  have Xa2 := Lib.hid hrXa
  clear hrXa
  go_wp2_with fail
  refine (CR1.out _ _ _ Xa2.out).mono ?_
  rintro e w3 ⟨⟨AYa, cYa, rfl, hrYa, _, hNYa⟩, hb⟩
  have X3 := Lib.hid (X2.out.below hb)
  have B3 := Lib.hid (B2.out.trans (hb.mono B2.out.size))
  have Xa3 := Lib.hid (Xa2.out.below hb)
  clear X2 B2 Xa2 hb
  have Ya3 := Lib.hid hrYa
  have NYa := Lib.hid hNYa
  clear hrYa hNYa
  go_wp2
  go_loopw [10] (fun i wr => ∃ k : Nat, k ≤ n ∧ i = .int .i64 k ∧ Hid (∃ j, wr = w3.drewN j)) (fun i _ => n - (intOf i).toNat)
  case atStart => exact ⟨0, Nat.zero_le _, rfl, 0, rfl⟩
  case round =>
    obtain ⟨k, hk, rfl, HJ⟩ := hrel
    obtain ⟨j, hj⟩ := HJ.out
    by_cases hlt : k < n
    · obtain ⟨i, hi⟩ : ∃ i, 1 * k = i := ⟨_, rfl⟩
      have hil : i < l := by have := HQ.out; omega
      obtain ⟨ay, rfl, _, hcy⟩ := (Ya3.out.drewN j).2 (by omega)
      have hck := hcy i hil
      obtain ⟨ax, rfl, _, hcx⟩ := (X3.out.drewN j).2 (by omega)
      have hcx := hcx k hlt
      rw [← hj] at hck hcx
      have hyx := HYX.out k hlt
      rw [hi] at hyx
      rw [hyx] at hck
      obtain ⟨v, hv⟩ : ∃ v, xs.getD k 0 = v := ⟨_, rfl⟩
      rw [hv] at hck hcx
      have w4 : IntKind.i64.wrap (k : Int) = (i : Int) := by rw [show (k : Int) = (i : Int) by omega]; exact IntWalk.i64_in _ (by omega)
      have hilI : (i : Int) < (l : Int) := by omega
      have hkI : (k : Int) < (n : Int) := by omega
      have HJ' := Lib.hid hj
      clear hcy hyx hv hi hj HJ
      go_wp2
      go_quiet (fail)
      go_wp2
      go_roundw
      case rel => exact ⟨k + 1, by omega, by go_num, by rw [HJ'.out]; exact ⟨_, World.drewN_drewN _ _ _⟩⟩
      case measure => simp [intOf]; omega
    · obtain rfl : n = k := by omega
      have hkI : ¬ (n : Int) < (n : Int) := by omega
      clear hlt
      have X4 := Lib.hid (X3.out.drewN j)
      have B4 := Lib.hid (belowDrewN B3.out j)
      have Ya4 := Lib.hid (Ya3.out.drewN j)
      clear X3 B3 Ya3
      rw [← hj] at X4 B4 Ya4
      clear hj HJ
      obtain ⟨w4, hw4⟩ : ∃ W, W = wr := ⟨_, rfl⟩
      subst hw4
      go_wp2
      go_loop [11] (fun i => ∃ k : Nat, k ≤ l ∧ i = .int .i64 k) (fun i => l - (intOf i).toNat)
      case atStart => exact ⟨0, Nat.zero_le _, rfl⟩
      case round =>
        obtain ⟨k, hk, rfl⟩ := hrel
        by_cases hlt : k < l
        · obtain ⟨ay, rfl, _, hc⟩ := Ya4.out.2 (by omega)
          have hck := hc k hlt
          have CY := Lib.hid (fun w => within_any (ys.getD k 0) (-32767) 32767 w)
          rw [HYB.out k hlt] at CY
          obtain ⟨yk, hyk⟩ : ∃ y, ys.getD k 0 = y := ⟨_, rfl⟩
          rw [hyk] at hck CY
          have hkI : (k : Int) < (l : Int) := by omega
          clear hc hyk
          go_wp2_with fail
          refine (CY.out _).mono ?_
          rintro e w' ⟨rfl, rfl⟩
          go_wp2
          go_round
          case rel => exact ⟨k + 1, by omega, by go_num⟩
          case measure => simp [intOf]; omega
        · obtain rfl : l = k := by omega
          have hkI : ¬ (l : Int) < (l : Int) := by omega
          clear hlt
          go_wp2_with fail
          refine (CCY.out _ _ _ NYa.out Ya4.out).mono ?_
          rintro e w5 ⟨⟨AYb, cYb, rfl, hrYb⟩, hb⟩
          have X5 := Lib.hid (X4.out.below hb)
          have B5 := Lib.hid (B4.out.trans (hb.mono B4.out.size))
          have Ya5 := Lib.hid (Ya4.out.below hb)
          clear X4 B4 Ya4 hb
          have Yb5 := Lib.hid hrYb
          clear hrYb
          go_wp2_with fail
          refine (CR2.out _ _ _ Yb5.out).mono ?_
          rintro e w6 ⟨⟨AZa, cZa, rfl, hrZa, _, _⟩, hb⟩
          have X6 := Lib.hid (X5.out.below hb)
          have B6 := Lib.hid (B5.out.trans (hb.mono B5.out.size))
          have Ya6 := Lib.hid (Ya5.out.below hb)
          have Yb6 := Lib.hid (Yb5.out.below hb)
          clear X5 B5 Ya5 Yb5 hb
          have Za6 := Lib.hid hrZa
          clear hrZa
          go_wp2_with fail
          refine (ints_same _ _ _ _ _ _ _ Za6.out X6.out (by omega)).mono ?_
          rintro e w' ⟨rfl, kk, rfl⟩
          have X7 := Lib.hid (X6.out.drewN kk)
          have B7 := Lib.hid (belowDrewN B6.out kk)
          have Ya7 := Lib.hid (Ya6.out.drewN kk)
          have Za7 := Lib.hid (Za6.out.drewN kk)
          clear X6 B6 Ya6 Za6
          obtain ⟨w7, hw7⟩ : ∃ W, w6.drewN kk = W := ⟨_, rfl⟩
          rw [hw7] at X7 B7 Ya7 Za7 ⊢
          clear hw7
          go_wp2
          go_ret
          exact ⟨by simp, B7.out⟩
set_option maxRecDepth 100000 in
set_option maxHeartbeats 4000000 in
theorem bkw_1_z (A : Option Addr)  (c : Nat) (d : Int) (xs ys : List Int) (w : World)  (hr : RdI w A 0 xs) (hn : 0 ≤ 24) (hA : A = none → 0 = 0 ∧ c = 0)
    (CSg : ∀ W, RdI W A 0 xs → Calls Try.prog 19 #[.slice A 0 c] W fun e w' => e = .returned (.int .i64 0) ∧ W = w')
    (CD : ∀ W, Calls Try.prog 23 #[.int .i64 d] W fun e w' => e = .returned (.int .i64 0) ∧ W = w')
    (CR1 : ∀ B' d' W, RdI W B' 0 xs → Calls Try.prog 59 #[.agg #[.int .i64 0, .int .i64 d, .int .i64 1, .int .i64 2, .int .i64 0, .slice none 0 0], .slice B' 0 d'] W (RdResN W 0 0 ys))
    (CR2 : ∀ B' d' W, RdI W B' 0 ys → Calls Try.prog 59 #[.agg #[.int .i64 0, .int .i64 d, .int .i64 2, .int .i64 1, .int .i64 0, .slice none 0 0], .slice B' 0 d'] W (RdResN W 0 0 xs))
    (HYB : ∀ k, k < 0 → fromB (-32767) 32767 [ys.getD k 0] = true)
    : Calls Try.prog 12 #[.slice A 0 c, .int .i64 d, .int .i64 1] w fun e w' => e = .returned (.bool true) ∧ Below w.heap.size w w' := by
  have CCI : Hid (∀ W, RdI W A 0 xs → Calls Try.prog 18 #[.slice A 0 c] W (RdOne W 0 xs)) := fun W h => (copyInts_any A 0 c xs W hA h (by omega)).mono fun e w' ho => ho.rd h.1
  have CCY : Hid (∀ B' d' W, (B' = none → 0 = 0 ∧ d' = 0) → RdI W B' 0 ys → Calls Try.prog 18 #[.slice B' 0 d'] W (RdOne W 0 ys)) := fun B' d' W hN h => (copyInts_any B' 0 d' ys W hN h (by omega)).mono fun e w' ho => ho.rd h.1
  have CSg := Lib.hid CSg
  have CD := Lib.hid CD
  have CR1 := Lib.hid CR1
  have CR2 := Lib.hid CR2
  have HYB := Lib.hid HYB
  have CWi := Lib.hid (fun W => within_any 1 0 4 W)
  rw [show fromB 0 4 [1] = true by decide] at CWi
  have X0 := Lib.hid hr
  have B0 := Lib.hid (Below.refl w.heap.size w)
  clear hr hA
  go_enter Try.func12, Try.ntmps12
  go_wp2_with fail
  refine (awake_any _).mono ?_
  rintro e w1 ⟨rfl, hb⟩
  have X1 := Lib.hid (X0.out.below hb)
  have B1 := Lib.hid (B0.out.trans (hb.mono B0.out.size))
  clear X0 B0 hb
  go_wp2_with fail
  refine (CSg.out _ X1.out).mono ?_
  rintro e w' ⟨rfl, rfl⟩
  go_wp2_with fail
  refine (CD.out _).mono ?_
  rintro e w' ⟨rfl, rfl⟩
  go_wp2_with fail
  refine (CWi.out _).mono ?_
  rintro e w' ⟨rfl, rfl⟩
  go_wp2_with fail
  refine (CCI.out _ X1.out).mono ?_
  rintro e w2 ⟨⟨AXa, cXa, rfl, hrXa⟩, hb⟩
  have X2 := Lib.hid (X1.out.below hb)
  have B2 := Lib.hid (B1.out.trans (hb.mono B1.out.size))
  clear X1 B1 hb
  have Xa2 := Lib.hid hrXa
  clear hrXa
  go_wp2_with fail
  refine (CR1.out _ _ _ Xa2.out).mono ?_
  rintro e w3 ⟨⟨AYa, cYa, rfl, hrYa, _, hNYa⟩, hb⟩
  have X3 := Lib.hid (X2.out.below hb)
  have B3 := Lib.hid (B2.out.trans (hb.mono B2.out.size))
  have Xa3 := Lib.hid (Xa2.out.below hb)
  clear X2 B2 Xa2 hb
  have Ya3 := Lib.hid hrYa
  have NYa := Lib.hid hNYa
  clear hrYa hNYa
  go_wp2
  go_loop [10] (fun i => i = .int .i64 0) (fun i => 0 - (intOf i).toNat)
  case atStart => rfl
  case round =>
    subst hrel
    go_wp2
    go_loop [11] (fun i => i = .int .i64 0) (fun i => 0 - (intOf i).toNat)
    case atStart => rfl
    case round =>
      subst hrel
      go_wp2_with fail
      refine (CCY.out _ _ _ NYa.out Ya3.out).mono ?_
      rintro e w4 ⟨⟨AYb, cYb, rfl, hrYb⟩, hb⟩
      have X4 := Lib.hid (X3.out.below hb)
      have B4 := Lib.hid (B3.out.trans (hb.mono B3.out.size))
      have Ya4 := Lib.hid (Ya3.out.below hb)
      clear X3 B3 Ya3 hb
      have Yb4 := Lib.hid hrYb
      clear hrYb
      go_wp2_with fail
      refine (CR2.out _ _ _ Yb4.out).mono ?_
      rintro e w5 ⟨⟨AZa, cZa, rfl, hrZa, _, _⟩, hb⟩
      have X5 := Lib.hid (X4.out.below hb)
      have B5 := Lib.hid (B4.out.trans (hb.mono B4.out.size))
      have Ya5 := Lib.hid (Ya4.out.below hb)
      have Yb5 := Lib.hid (Yb4.out.below hb)
      clear X4 B4 Ya4 Yb4 hb
      have Za5 := Lib.hid hrZa
      clear hrZa
      go_wp2_with fail
      refine (ints_same _ _ _ _ _ _ _ Za5.out X5.out (by omega)).mono ?_
      rintro e w' ⟨rfl, kk, rfl⟩
      have X6 := Lib.hid (X5.out.drewN kk)
      have B6 := Lib.hid (belowDrewN B5.out kk)
      have Ya6 := Lib.hid (Ya5.out.drewN kk)
      have Za6 := Lib.hid (Za5.out.drewN kk)
      clear X5 B5 Ya5 Za5
      obtain ⟨w6, hw6⟩ : ∃ W, w5.drewN kk = W := ⟨_, rfl⟩
      rw [hw6] at X6 B6 Ya6 Za6 ⊢
      clear hw6
      go_wp2
      go_ret
      exact ⟨by simp, B6.out⟩
set_option maxRecDepth 100000 in
set_option maxHeartbeats 4000000 in
theorem bkw_1_k (A : Option Addr) (n : Nat) (c : Nat) (d : Int) (xs ys : List Int) (w : World) (l q : Nat) (hq : n = q + 1) (hl : l = 2 * q + 1) (hr : RdI w A n xs) (hn : n ≤ 24) (hA : A = none → n = 0 ∧ c = 0)
    (CSg : ∀ W, RdI W A n xs → Calls Try.prog 19 #[.slice A n c] W fun e w' => e = .returned (.int .i64 0) ∧ W = w')
    (CD : ∀ W, Calls Try.prog 23 #[.int .i64 d] W fun e w' => e = .returned (.int .i64 0) ∧ W = w')
    (CR1 : ∀ B' d' W, RdI W B' n xs → Calls Try.prog 59 #[.agg #[.int .i64 0, .int .i64 d, .int .i64 1, .int .i64 2, .int .i64 0, .slice none 0 0], .slice B' n d'] W (RdResN W 0 l ys))
    (CR2 : ∀ B' d' W, RdI W B' l ys → Calls Try.prog 59 #[.agg #[.int .i64 0, .int .i64 d, .int .i64 2, .int .i64 1, .int .i64 0, .slice none 0 0], .slice B' l d'] W (RdResN W 0 n xs))
    (HYB : ∀ k, k < l → fromB (-32767) 32767 [ys.getD k 0] = true)
    (HYX : ∀ i, i < n → ys.getD (2 * i) 0 = xs.getD i 0)
    : Calls Try.prog 12 #[.slice A n c, .int .i64 d, .int .i64 1] w fun e w' => e = .returned (.bool true) ∧ Below w.heap.size w w' := by
  have CCI : Hid (∀ W, RdI W A n xs → Calls Try.prog 18 #[.slice A n c] W (RdOne W n xs)) := fun W h => (copyInts_any A n c xs W hA h (by omega)).mono fun e w' ho => ho.rd h.1
  have CCY : Hid (∀ B' d' W, (B' = none → l = 0 ∧ d' = 0) → RdI W B' l ys → Calls Try.prog 18 #[.slice B' l d'] W (RdOne W l ys)) := fun B' d' W hN h => (copyInts_any B' l d' ys W hN h (by omega)).mono fun e w' ho => ho.rd h.1
  have CSg := Lib.hid CSg
  have CD := Lib.hid CD
  have CR1 := Lib.hid CR1
  have CR2 := Lib.hid CR2
  have HYB := Lib.hid HYB
  have HYX := Lib.hid HYX
  have CWi := Lib.hid (fun W => within_any 1 0 4 W)
  rw [show fromB 0 4 [1] = true by decide] at CWi
  have X0 := Lib.hid hr
  have B0 := Lib.hid (Below.refl w.heap.size w)
  have h24 : ¬ (24 : Int) < (n : Int) := by omega
  have hn0 : (0 : Int) < (n : Int) := by omega
  have hn0N : 0 < n := by omega
  have hn1 : ((n : Int) == 0) = false := by simp; omega
  have w1 : IntKind.i64.wrap ((n : Int) - 1) = (q : Int) := by rw [show (n : Int) - 1 = (q : Int) by omega]; exact IntWalk.i64_in _ (by omega)
  have w2 : IntKind.i64.wrap (2 * (q : Int)) = 2 * (q : Int) := IntWalk.i64_in _ (by omega)
  have w3 : IntKind.i64.wrap (2 * (q : Int) + 1) = (l : Int) := by rw [show 2 * (q : Int) + 1 = (l : Int) by omega]; exact IntWalk.i64_in _ (by omega)
  have h400 : ¬ (400 : Int) < (l : Int) := by omega
  have HQ := Lib.hid (And.intro hq hl)
  have hl4 : l ≤ 400 := by omega
  clear hq hl
  clear hr hA
  go_enter Try.func12, Try.ntmps12
  go_wp2_with fail
  refine (awake_any _).mono ?_
  rintro e w1 ⟨rfl, hb⟩
  have X1 := Lib.hid (X0.out.below hb)
  have B1 := Lib.hid (B0.out.trans (hb.mono B0.out.size))
  clear X0 B0 hb
  go_wp2_with fail
  refine (CSg.out _ X1.out).mono ?_
  rintro e w' ⟨rfl, rfl⟩
  go_wp2_with fail
  refine (CD.out _).mono ?_
  rintro e w' ⟨rfl, rfl⟩
  go_wp2_with fail
  refine (CWi.out _).mono ?_
  rintro e w' ⟨rfl, rfl⟩
  go_wp2_with fail
  refine (CCI.out _ X1.out).mono ?_
  rintro e w2 ⟨⟨AXa, cXa, rfl, hrXa⟩, hb⟩
  have X2 := Lib.hid (X1.out.below hb)
  have B2 := Lib.hid (B1.out.trans (hb.mono B1.out.size))
  clear X1 B1 hb
  have Xa2 := Lib.hid hrXa
  clear hrXa
  go_wp2_with fail
  refine (CR1.out _ _ _ Xa2.out).mono ?_
  rintro e w3 ⟨⟨AYa, cYa, rfl, hrYa, _, hNYa⟩, hb⟩
  have X3 := Lib.hid (X2.out.below hb)
  have B3 := Lib.hid (B2.out.trans (hb.mono B2.out.size))
  have Xa3 := Lib.hid (Xa2.out.below hb)
  clear X2 B2 Xa2 hb
  have Ya3 := Lib.hid hrYa
  have NYa := Lib.hid hNYa
  clear hrYa hNYa
  go_wp2
  go_loopw [10] (fun i wr => ∃ k : Nat, k ≤ n ∧ i = .int .i64 k ∧ Hid (∃ j, wr = w3.drewN j)) (fun i _ => n - (intOf i).toNat)
  case atStart => exact ⟨0, Nat.zero_le _, rfl, 0, rfl⟩
  case round =>
    obtain ⟨k, hk, rfl, HJ⟩ := hrel
    obtain ⟨j, hj⟩ := HJ.out
    by_cases hlt : k < n
    · obtain ⟨i, hi⟩ : ∃ i, 2 * k = i := ⟨_, rfl⟩
      have hil : i < l := by have := HQ.out; omega
      obtain ⟨ay, rfl, _, hcy⟩ := (Ya3.out.drewN j).2 (by omega)
      have hck := hcy i hil
      obtain ⟨ax, rfl, _, hcx⟩ := (X3.out.drewN j).2 (by omega)
      have hcx := hcx k hlt
      rw [← hj] at hck hcx
      have hyx := HYX.out k hlt
      rw [hi] at hyx
      rw [hyx] at hck
      obtain ⟨v, hv⟩ : ∃ v, xs.getD k 0 = v := ⟨_, rfl⟩
      rw [hv] at hck hcx
      have w4 : IntKind.i64.wrap (2 * (k : Int)) = (i : Int) := by rw [show 2 * (k : Int) = (i : Int) by omega]; exact IntWalk.i64_in _ (by omega)
      have hilI : (i : Int) < (l : Int) := by omega
      have hkI : (k : Int) < (n : Int) := by omega
      have HJ' := Lib.hid hj
      clear hcy hyx hv hi hj HJ
      go_wp2
      go_quiet (fail)
      go_wp2
      go_roundw
      case rel => exact ⟨k + 1, by omega, by go_num, by rw [HJ'.out]; exact ⟨_, World.drewN_drewN _ _ _⟩⟩
      case measure => simp [intOf]; omega
    · obtain rfl : n = k := by omega
      have hkI : ¬ (n : Int) < (n : Int) := by omega
      clear hlt
      have X4 := Lib.hid (X3.out.drewN j)
      have B4 := Lib.hid (belowDrewN B3.out j)
      have Ya4 := Lib.hid (Ya3.out.drewN j)
      clear X3 B3 Ya3
      rw [← hj] at X4 B4 Ya4
      clear hj HJ
      obtain ⟨w4, hw4⟩ : ∃ W, W = wr := ⟨_, rfl⟩
      subst hw4
      go_wp2
      go_loop [11] (fun i => ∃ k : Nat, k ≤ l ∧ i = .int .i64 k) (fun i => l - (intOf i).toNat)
      case atStart => exact ⟨0, Nat.zero_le _, rfl⟩
      case round =>
        obtain ⟨k, hk, rfl⟩ := hrel
        by_cases hlt : k < l
        · obtain ⟨ay, rfl, _, hc⟩ := Ya4.out.2 (by omega)
          have hck := hc k hlt
          have CY := Lib.hid (fun w => within_any (ys.getD k 0) (-32767) 32767 w)
          rw [HYB.out k hlt] at CY
          obtain ⟨yk, hyk⟩ : ∃ y, ys.getD k 0 = y := ⟨_, rfl⟩
          rw [hyk] at hck CY
          have hkI : (k : Int) < (l : Int) := by omega
          clear hc hyk
          go_wp2_with fail
          refine (CY.out _).mono ?_
          rintro e w' ⟨rfl, rfl⟩
          go_wp2
          go_round
          case rel => exact ⟨k + 1, by omega, by go_num⟩
          case measure => simp [intOf]; omega
        · obtain rfl : l = k := by omega
          have hkI : ¬ (l : Int) < (l : Int) := by omega
          clear hlt
          go_wp2_with fail
          refine (CCY.out _ _ _ NYa.out Ya4.out).mono ?_
          rintro e w5 ⟨⟨AYb, cYb, rfl, hrYb⟩, hb⟩
          have X5 := Lib.hid (X4.out.below hb)
          have B5 := Lib.hid (B4.out.trans (hb.mono B4.out.size))
          have Ya5 := Lib.hid (Ya4.out.below hb)
          clear X4 B4 Ya4 hb
          have Yb5 := Lib.hid hrYb
          clear hrYb
          go_wp2_with fail
          refine (CR2.out _ _ _ Yb5.out).mono ?_
          rintro e w6 ⟨⟨AZa, cZa, rfl, hrZa, _, _⟩, hb⟩
          have X6 := Lib.hid (X5.out.below hb)
          have B6 := Lib.hid (B5.out.trans (hb.mono B5.out.size))
          have Ya6 := Lib.hid (Ya5.out.below hb)
          have Yb6 := Lib.hid (Yb5.out.below hb)
          clear X5 B5 Ya5 Yb5 hb
          have Za6 := Lib.hid hrZa
          clear hrZa
          go_wp2_with fail
          refine (ints_same _ _ _ _ _ _ _ Za6.out X6.out (by omega)).mono ?_
          rintro e w' ⟨rfl, kk, rfl⟩
          have X7 := Lib.hid (X6.out.drewN kk)
          have B7 := Lib.hid (belowDrewN B6.out kk)
          have Ya7 := Lib.hid (Ya6.out.drewN kk)
          have Za7 := Lib.hid (Za6.out.drewN kk)
          clear X6 B6 Ya6 Za6
          obtain ⟨w7, hw7⟩ : ∃ W, w6.drewN kk = W := ⟨_, rfl⟩
          rw [hw7] at X7 B7 Ya7 Za7 ⊢
          clear hw7
          go_wp2
          go_ret
          exact ⟨by simp, B7.out⟩
set_option maxRecDepth 100000 in
set_option maxHeartbeats 4000000 in
theorem bkw_2_z (A : Option Addr)  (c : Nat) (d : Int) (xs ys : List Int) (w : World)  (hr : RdI w A 0 xs) (hn : 0 ≤ 24) (hA : A = none → 0 = 0 ∧ c = 0)
    (CSg : ∀ W, RdI W A 0 xs → Calls Try.prog 19 #[.slice A 0 c] W fun e w' => e = .returned (.int .i64 0) ∧ W = w')
    (CD : ∀ W, Calls Try.prog 23 #[.int .i64 d] W fun e w' => e = .returned (.int .i64 0) ∧ W = w')
    (CR1 : ∀ B' d' W, RdI W B' 0 xs → Calls Try.prog 59 #[.agg #[.int .i64 0, .int .i64 d, .int .i64 1, .int .i64 4, .int .i64 0, .slice none 0 0], .slice B' 0 d'] W (RdResN W 0 0 ys))
    (CR2 : ∀ B' d' W, RdI W B' 0 ys → Calls Try.prog 59 #[.agg #[.int .i64 0, .int .i64 d, .int .i64 4, .int .i64 1, .int .i64 0, .slice none 0 0], .slice B' 0 d'] W (RdResN W 0 0 xs))
    (HYB : ∀ k, k < 0 → fromB (-32767) 32767 [ys.getD k 0] = true)
    : Calls Try.prog 12 #[.slice A 0 c, .int .i64 d, .int .i64 2] w fun e w' => e = .returned (.bool true) ∧ Below w.heap.size w w' := by
  have CCI : Hid (∀ W, RdI W A 0 xs → Calls Try.prog 18 #[.slice A 0 c] W (RdOne W 0 xs)) := fun W h => (copyInts_any A 0 c xs W hA h (by omega)).mono fun e w' ho => ho.rd h.1
  have CCY : Hid (∀ B' d' W, (B' = none → 0 = 0 ∧ d' = 0) → RdI W B' 0 ys → Calls Try.prog 18 #[.slice B' 0 d'] W (RdOne W 0 ys)) := fun B' d' W hN h => (copyInts_any B' 0 d' ys W hN h (by omega)).mono fun e w' ho => ho.rd h.1
  have CSg := Lib.hid CSg
  have CD := Lib.hid CD
  have CR1 := Lib.hid CR1
  have CR2 := Lib.hid CR2
  have HYB := Lib.hid HYB
  have CWi := Lib.hid (fun W => within_any 2 0 4 W)
  rw [show fromB 0 4 [2] = true by decide] at CWi
  have X0 := Lib.hid hr
  have B0 := Lib.hid (Below.refl w.heap.size w)
  clear hr hA
  go_enter Try.func12, Try.ntmps12
  go_wp2_with fail
  refine (awake_any _).mono ?_
  rintro e w1 ⟨rfl, hb⟩
  have X1 := Lib.hid (X0.out.below hb)
  have B1 := Lib.hid (B0.out.trans (hb.mono B0.out.size))
  clear X0 B0 hb
  go_wp2_with fail
  refine (CSg.out _ X1.out).mono ?_
  rintro e w' ⟨rfl, rfl⟩
  go_wp2_with fail
  refine (CD.out _).mono ?_
  rintro e w' ⟨rfl, rfl⟩
  go_wp2_with fail
  refine (CWi.out _).mono ?_
  rintro e w' ⟨rfl, rfl⟩
  go_wp2_with fail
  refine (CCI.out _ X1.out).mono ?_
  rintro e w2 ⟨⟨AXa, cXa, rfl, hrXa⟩, hb⟩
  have X2 := Lib.hid (X1.out.below hb)
  have B2 := Lib.hid (B1.out.trans (hb.mono B1.out.size))
  clear X1 B1 hb
  have Xa2 := Lib.hid hrXa
  clear hrXa
  go_wp2_with fail
  refine (CR1.out _ _ _ Xa2.out).mono ?_
  rintro e w3 ⟨⟨AYa, cYa, rfl, hrYa, _, hNYa⟩, hb⟩
  have X3 := Lib.hid (X2.out.below hb)
  have B3 := Lib.hid (B2.out.trans (hb.mono B2.out.size))
  have Xa3 := Lib.hid (Xa2.out.below hb)
  clear X2 B2 Xa2 hb
  have Ya3 := Lib.hid hrYa
  have NYa := Lib.hid hNYa
  clear hrYa hNYa
  go_wp2
  go_loop [10] (fun i => i = .int .i64 0) (fun i => 0 - (intOf i).toNat)
  case atStart => rfl
  case round =>
    subst hrel
    go_wp2
    go_loop [11] (fun i => i = .int .i64 0) (fun i => 0 - (intOf i).toNat)
    case atStart => rfl
    case round =>
      subst hrel
      go_wp2_with fail
      refine (CCY.out _ _ _ NYa.out Ya3.out).mono ?_
      rintro e w4 ⟨⟨AYb, cYb, rfl, hrYb⟩, hb⟩
      have X4 := Lib.hid (X3.out.below hb)
      have B4 := Lib.hid (B3.out.trans (hb.mono B3.out.size))
      have Ya4 := Lib.hid (Ya3.out.below hb)
      clear X3 B3 Ya3 hb
      have Yb4 := Lib.hid hrYb
      clear hrYb
      go_wp2_with fail
      refine (CR2.out _ _ _ Yb4.out).mono ?_
      rintro e w5 ⟨⟨AZa, cZa, rfl, hrZa, _, _⟩, hb⟩
      have X5 := Lib.hid (X4.out.below hb)
      have B5 := Lib.hid (B4.out.trans (hb.mono B4.out.size))
      have Ya5 := Lib.hid (Ya4.out.below hb)
      have Yb5 := Lib.hid (Yb4.out.below hb)
      clear X4 B4 Ya4 Yb4 hb
      have Za5 := Lib.hid hrZa
      clear hrZa
      go_wp2_with fail
      refine (ints_same _ _ _ _ _ _ _ Za5.out X5.out (by omega)).mono ?_
      rintro e w' ⟨rfl, kk, rfl⟩
      have X6 := Lib.hid (X5.out.drewN kk)
      have B6 := Lib.hid (belowDrewN B5.out kk)
      have Ya6 := Lib.hid (Ya5.out.drewN kk)
      have Za6 := Lib.hid (Za5.out.drewN kk)
      clear X5 B5 Ya5 Za5
      obtain ⟨w6, hw6⟩ : ∃ W, w5.drewN kk = W := ⟨_, rfl⟩
      rw [hw6] at X6 B6 Ya6 Za6 ⊢
      clear hw6
      go_wp2
      go_ret
      exact ⟨by simp, B6.out⟩
set_option maxRecDepth 100000 in
set_option maxHeartbeats 4000000 in
theorem bkw_2_k (A : Option Addr) (n : Nat) (c : Nat) (d : Int) (xs ys : List Int) (w : World) (l q : Nat) (hq : n = q + 1) (hl : l = 4 * q + 1) (hr : RdI w A n xs) (hn : n ≤ 24) (hA : A = none → n = 0 ∧ c = 0)
    (CSg : ∀ W, RdI W A n xs → Calls Try.prog 19 #[.slice A n c] W fun e w' => e = .returned (.int .i64 0) ∧ W = w')
    (CD : ∀ W, Calls Try.prog 23 #[.int .i64 d] W fun e w' => e = .returned (.int .i64 0) ∧ W = w')
    (CR1 : ∀ B' d' W, RdI W B' n xs → Calls Try.prog 59 #[.agg #[.int .i64 0, .int .i64 d, .int .i64 1, .int .i64 4, .int .i64 0, .slice none 0 0], .slice B' n d'] W (RdResN W 0 l ys))
    (CR2 : ∀ B' d' W, RdI W B' l ys → Calls Try.prog 59 #[.agg #[.int .i64 0, .int .i64 d, .int .i64 4, .int .i64 1, .int .i64 0, .slice none 0 0], .slice B' l d'] W (RdResN W 0 n xs))
    (HYB : ∀ k, k < l → fromB (-32767) 32767 [ys.getD k 0] = true)
    (HYX : ∀ i, i < n → ys.getD (4 * i) 0 = xs.getD i 0)
    : Calls Try.prog 12 #[.slice A n c, .int .i64 d, .int .i64 2] w fun e w' => e = .returned (.bool true) ∧ Below w.heap.size w w' := by
  have CCI : Hid (∀ W, RdI W A n xs → Calls Try.prog 18 #[.slice A n c] W (RdOne W n xs)) := fun W h => (copyInts_any A n c xs W hA h (by omega)).mono fun e w' ho => ho.rd h.1
  have CCY : Hid (∀ B' d' W, (B' = none → l = 0 ∧ d' = 0) → RdI W B' l ys → Calls Try.prog 18 #[.slice B' l d'] W (RdOne W l ys)) := fun B' d' W hN h => (copyInts_any B' l d' ys W hN h (by omega)).mono fun e w' ho => ho.rd h.1
  have CSg := Lib.hid CSg
  have CD := Lib.hid CD
  have CR1 := Lib.hid CR1
  have CR2 := Lib.hid CR2
  have HYB := Lib.hid HYB
  have HYX := Lib.hid HYX
  have CWi := Lib.hid (fun W => within_any 2 0 4 W)
  rw [show fromB 0 4 [2] = true by decide] at CWi
  have X0 := Lib.hid hr
  have B0 := Lib.hid (Below.refl w.heap.size w)
  have h24 : ¬ (24 : Int) < (n : Int) := by omega
  have hn0 : (0 : Int) < (n : Int) := by omega
  have hn0N : 0 < n := by omega
  have hn1 : ((n : Int) == 0) = false := by simp; omega
  have w1 : IntKind.i64.wrap ((n : Int) - 1) = (q : Int) := by rw [show (n : Int) - 1 = (q : Int) by omega]; exact IntWalk.i64_in _ (by omega)
  have w2 : IntKind.i64.wrap (4 * (q : Int)) = 4 * (q : Int) := IntWalk.i64_in _ (by omega)
  have w3 : IntKind.i64.wrap (4 * (q : Int) + 1) = (l : Int) := by rw [show 4 * (q : Int) + 1 = (l : Int) by omega]; exact IntWalk.i64_in _ (by omega)
  have h400 : ¬ (400 : Int) < (l : Int) := by omega
  have HQ := Lib.hid (And.intro hq hl)
  have hl4 : l ≤ 400 := by omega
  clear hq hl
  clear hr hA
  go_enter Try.func12, Try.ntmps12
  go_wp2_with fail
  refine (awake_any _).mono ?_
  rintro e w1 ⟨rfl, hb⟩
  have X1 := Lib.hid (X0.out.below hb)
  have B1 := Lib.hid (B0.out.trans (hb.mono B0.out.size))
  clear X0 B0 hb
  go_wp2_with fail
  refine (CSg.out _ X1.out).mono ?_
  rintro e w' ⟨rfl, rfl⟩
  go_wp2_with fail
  refine (CD.out _).mono ?_
  rintro e w' ⟨rfl, rfl⟩
  go_wp2_with fail
  refine (CWi.out _).mono ?_
  rintro e w' ⟨rfl, rfl⟩
  go_wp2_with fail
  refine (CCI.out _ X1.out).mono ?_
  rintro e w2 ⟨⟨AXa, cXa, rfl, hrXa⟩, hb⟩
  have X2 := Lib.hid (X1.out.below hb)
  have B2 := Lib.hid (B1.out.trans (hb.mono B1.out.size))
  clear X1 B1 hb
  have Xa2 := Lib.hid hrXa
  clear hrXa
  go_wp2_with fail
  refine (CR1.out _ _ _ Xa2.out).mono ?_
  rintro e w3 ⟨⟨AYa, cYa, rfl, hrYa, _, hNYa⟩, hb⟩
  have X3 := Lib.hid (X2.out.below hb)
  have B3 := Lib.hid (B2.out.trans (hb.mono B2.out.size))
  have Xa3 := Lib.hid (Xa2.out.below hb)
  clear X2 B2 Xa2 hb
  have Ya3 := Lib.hid hrYa
  have NYa := Lib.hid hNYa
  clear hrYa hNYa
  go_wp2
  go_loopw [10] (fun i wr => ∃ k : Nat, k ≤ n ∧ i = .int .i64 k ∧ Hid (∃ j, wr = w3.drewN j)) (fun i _ => n - (intOf i).toNat)
  case atStart => exact ⟨0, Nat.zero_le _, rfl, 0, rfl⟩
  case round =>
    obtain ⟨k, hk, rfl, HJ⟩ := hrel
    obtain ⟨j, hj⟩ := HJ.out
    by_cases hlt : k < n
    · obtain ⟨i, hi⟩ : ∃ i, 4 * k = i := ⟨_, rfl⟩
      have hil : i < l := by have := HQ.out; omega
      obtain ⟨ay, rfl, _, hcy⟩ := (Ya3.out.drewN j).2 (by omega)
      have hck := hcy i hil
      obtain ⟨ax, rfl, _, hcx⟩ := (X3.out.drewN j).2 (by omega)
      have hcx := hcx k hlt
      rw [← hj] at hck hcx
      have hyx := HYX.out k hlt
      rw [hi] at hyx
      rw [hyx] at hck
      obtain ⟨v, hv⟩ : ∃ v, xs.getD k 0 = v := ⟨_, rfl⟩
      rw [hv] at hck hcx
      have w4 : IntKind.i64.wrap (4 * (k : Int)) = (i : Int) := by rw [show 4 * (k : Int) = (i : Int) by omega]; exact IntWalk.i64_in _ (by omega)
      have hilI : (i : Int) < (l : Int) := by omega
      have hkI : (k : Int) < (n : Int) := by omega
      have HJ' := Lib.hid hj
      clear hcy hyx hv hi hj HJ
      go_wp2
      go_quiet (fail)
      go_wp2
      go_roundw
      case rel => exact ⟨k + 1, by omega, by go_num, by rw [HJ'.out]; exact ⟨_, World.drewN_drewN _ _ _⟩⟩
      case measure => simp [intOf]; omega
    · obtain rfl : n = k := by omega
      have hkI : ¬ (n : Int) < (n : Int) := by omega
      clear hlt
      have X4 := Lib.hid (X3.out.drewN j)
      have B4 := Lib.hid (belowDrewN B3.out j)
      have Ya4 := Lib.hid (Ya3.out.drewN j)
      clear X3 B3 Ya3
      rw [← hj] at X4 B4 Ya4
      clear hj HJ
      obtain ⟨w4, hw4⟩ : ∃ W, W = wr := ⟨_, rfl⟩
      subst hw4
      go_wp2
      go_loop [11] (fun i => ∃ k : Nat, k ≤ l ∧ i = .int .i64 k) (fun i => l - (intOf i).toNat)
      case atStart => exact ⟨0, Nat.zero_le _, rfl⟩
      case round =>
        obtain ⟨k, hk, rfl⟩ := hrel
        by_cases hlt : k < l
        · obtain ⟨ay, rfl, _, hc⟩ := Ya4.out.2 (by omega)
          have hck := hc k hlt
          have CY := Lib.hid (fun w => within_any (ys.getD k 0) (-32767) 32767 w)
          rw [HYB.out k hlt] at CY
          obtain ⟨yk, hyk⟩ : ∃ y, ys.getD k 0 = y := ⟨_, rfl⟩
          rw [hyk] at hck CY
          have hkI : (k : Int) < (l : Int) := by omega
          clear hc hyk
          go_wp2_with fail
          refine (CY.out _).mono ?_
          rintro e w' ⟨rfl, rfl⟩
          go_wp2
          go_round
          case rel => exact ⟨k + 1, by omega, by go_num⟩
          case measure => simp [intOf]; omega
        · obtain rfl : l = k := by omega
          have hkI : ¬ (l : Int) < (l : Int) := by omega
          clear hlt
          go_wp2_with fail
          refine (CCY.out _ _ _ NYa.out Ya4.out).mono ?_
          rintro e w5 ⟨⟨AYb, cYb, rfl, hrYb⟩, hb⟩
          have X5 := Lib.hid (X4.out.below hb)
          have B5 := Lib.hid (B4.out.trans (hb.mono B4.out.size))
          have Ya5 := Lib.hid (Ya4.out.below hb)
          clear X4 B4 Ya4 hb
          have Yb5 := Lib.hid hrYb
          clear hrYb
          go_wp2_with fail
          refine (CR2.out _ _ _ Yb5.out).mono ?_
          rintro e w6 ⟨⟨AZa, cZa, rfl, hrZa, _, _⟩, hb⟩
          have X6 := Lib.hid (X5.out.below hb)
          have B6 := Lib.hid (B5.out.trans (hb.mono B5.out.size))
          have Ya6 := Lib.hid (Ya5.out.below hb)
          have Yb6 := Lib.hid (Yb5.out.below hb)
          clear X5 B5 Ya5 Yb5 hb
          have Za6 := Lib.hid hrZa
          clear hrZa
          go_wp2_with fail
          refine (ints_same _ _ _ _ _ _ _ Za6.out X6.out (by omega)).mono ?_
          rintro e w' ⟨rfl, kk, rfl⟩
          have X7 := Lib.hid (X6.out.drewN kk)
          have B7 := Lib.hid (belowDrewN B6.out kk)
          have Ya7 := Lib.hid (Ya6.out.drewN kk)
          have Za7 := Lib.hid (Za6.out.drewN kk)
          clear X6 B6 Ya6 Za6
          obtain ⟨w7, hw7⟩ : ∃ W, w6.drewN kk = W := ⟨_, rfl⟩
          rw [hw7] at X7 B7 Ya7 Za7 ⊢
          clear hw7
          go_wp2
          go_ret
          exact ⟨by simp, B7.out⟩
set_option maxRecDepth 100000 in
set_option maxHeartbeats 4000000 in
theorem bkw_3_z (A : Option Addr)  (c : Nat) (d : Int) (xs ys : List Int) (w : World)  (hr : RdI w A 0 xs) (hn : 0 ≤ 24) (hA : A = none → 0 = 0 ∧ c = 0)
    (CSg : ∀ W, RdI W A 0 xs → Calls Try.prog 19 #[.slice A 0 c] W fun e w' => e = .returned (.int .i64 0) ∧ W = w')
    (CD : ∀ W, Calls Try.prog 23 #[.int .i64 d] W fun e w' => e = .returned (.int .i64 0) ∧ W = w')
    (CR1 : ∀ B' d' W, RdI W B' 0 xs → Calls Try.prog 59 #[.agg #[.int .i64 0, .int .i64 d, .int .i64 1, .int .i64 8, .int .i64 0, .slice none 0 0], .slice B' 0 d'] W (RdResN W 0 0 ys))
    (CR2 : ∀ B' d' W, RdI W B' 0 ys → Calls Try.prog 59 #[.agg #[.int .i64 0, .int .i64 d, .int .i64 8, .int .i64 1, .int .i64 0, .slice none 0 0], .slice B' 0 d'] W (RdResN W 0 0 xs))
    (HYB : ∀ k, k < 0 → fromB (-32767) 32767 [ys.getD k 0] = true)
    : Calls Try.prog 12 #[.slice A 0 c, .int .i64 d, .int .i64 3] w fun e w' => e = .returned (.bool true) ∧ Below w.heap.size w w' := by
  have CCI : Hid (∀ W, RdI W A 0 xs → Calls Try.prog 18 #[.slice A 0 c] W (RdOne W 0 xs)) := fun W h => (copyInts_any A 0 c xs W hA h (by omega)).mono fun e w' ho => ho.rd h.1
  have CCY : Hid (∀ B' d' W, (B' = none → 0 = 0 ∧ d' = 0) → RdI W B' 0 ys → Calls Try.prog 18 #[.slice B' 0 d'] W (RdOne W 0 ys)) := fun B' d' W hN h => (copyInts_any B' 0 d' ys W hN h (by omega)).mono fun e w' ho => ho.rd h.1
  have CSg := Lib.hid CSg
  have CD := Lib.hid CD
  have CR1 := Lib.hid CR1
  have CR2 := Lib.hid CR2
  have HYB := Lib.hid HYB
  have CWi := Lib.hid (fun W => within_any 3 0 4 W)
  rw [show fromB 0 4 [3] = true by decide] at CWi
  have X0 := Lib.hid hr
  have B0 := Lib.hid (Below.refl w.heap.size w)
  clear hr hA
  go_enter Try.func12, Try.ntmps12
  go_wp2_with fail
  refine (awake_any _).mono ?_
  rintro e w1 ⟨rfl, hb⟩
  have X1 := Lib.hid (X0.out.below hb)
  have B1 := Lib.hid (B0.out.trans (hb.mono B0.out.size))
  clear X0 B0 hb
  go_wp2_with fail
  refine (CSg.out _ X1.out).mono ?_
  rintro e w' ⟨rfl, rfl⟩
  go_wp2_with fail
  refine (CD.out _).mono ?_
  rintro e w' ⟨rfl, rfl⟩
  go_wp2_with fail
  refine (CWi.out _).mono ?_
  rintro e w' ⟨rfl, rfl⟩
  go_wp2_with fail
  refine (CCI.out _ X1.out).mono ?_
  rintro e w2 ⟨⟨AXa, cXa, rfl, hrXa⟩, hb⟩
  have X2 := Lib.hid (X1.out.below hb)
  have B2 := Lib.hid (B1.out.trans (hb.mono B1.out.size))
  clear X1 B1 hb
  have Xa2 := Lib.hid hrXa
  clear hrXa
  go_wp2_with fail
  refine (CR1.out _ _ _ Xa2.out).mono ?_
  rintro e w3 ⟨⟨AYa, cYa, rfl, hrYa, _, hNYa⟩, hb⟩
  have X3 := Lib.hid (X2.out.below hb)
  have B3 := Lib.hid (B2.out.trans (hb.mono B2.out.size))
  have Xa3 := Lib.hid (Xa2.out.below hb)
  clear X2 B2 Xa2 hb
  have Ya3 := Lib.hid hrYa
  have NYa := Lib.hid hNYa
  clear hrYa hNYa
  go_wp2
  go_loop [10] (fun i => i = .int .i64 0) (fun i => 0 - (intOf i).toNat)
  case atStart => rfl
  case round =>
    subst hrel
    go_wp2
    go_loop [11] (fun i => i = .int .i64 0) (fun i => 0 - (intOf i).toNat)
    case atStart => rfl
    case round =>
      subst hrel
      go_wp2_with fail
      refine (CCY.out _ _ _ NYa.out Ya3.out).mono ?_
      rintro e w4 ⟨⟨AYb, cYb, rfl, hrYb⟩, hb⟩
      have X4 := Lib.hid (X3.out.below hb)
      have B4 := Lib.hid (B3.out.trans (hb.mono B3.out.size))
      have Ya4 := Lib.hid (Ya3.out.below hb)
      clear X3 B3 Ya3 hb
      have Yb4 := Lib.hid hrYb
      clear hrYb
      go_wp2_with fail
      refine (CR2.out _ _ _ Yb4.out).mono ?_
      rintro e w5 ⟨⟨AZa, cZa, rfl, hrZa, _, _⟩, hb⟩
      have X5 := Lib.hid (X4.out.below hb)
      have B5 := Lib.hid (B4.out.trans (hb.mono B4.out.size))
      have Ya5 := Lib.hid (Ya4.out.below hb)
      have Yb5 := Lib.hid (Yb4.out.below hb)
      clear X4 B4 Ya4 Yb4 hb
      have Za5 := Lib.hid hrZa
      clear hrZa
      go_wp2_with fail
      refine (ints_same _ _ _ _ _ _ _ Za5.out X5.out (by omega)).mono ?_
      rintro e w' ⟨rfl, kk, rfl⟩
      have X6 := Lib.hid (X5.out.drewN kk)
      have B6 := Lib.hid (belowDrewN B5.out kk)
      have Ya6 := Lib.hid (Ya5.out.drewN kk)
      have Za6 := Lib.hid (Za5.out.drewN kk)
      clear X5 B5 Ya5 Za5
      obtain ⟨w6, hw6⟩ : ∃ W, w5.drewN kk = W := ⟨_, rfl⟩
      rw [hw6] at X6 B6 Ya6 Za6 ⊢
      clear hw6
      go_wp2
      go_ret
      exact ⟨by simp, B6.out⟩
set_option maxRecDepth 100000 in
set_option maxHeartbeats 4000000 in
theorem bkw_3_k (A : Option Addr) (n : Nat) (c : Nat) (d : Int) (xs ys : List Int) (w : World) (l q : Nat) (hq : n = q + 1) (hl : l = 8 * q + 1) (hr : RdI w A n xs) (hn : n ≤ 24) (hA : A = none → n = 0 ∧ c = 0)
    (CSg : ∀ W, RdI W A n xs → Calls Try.prog 19 #[.slice A n c] W fun e w' => e = .returned (.int .i64 0) ∧ W = w')
    (CD : ∀ W, Calls Try.prog 23 #[.int .i64 d] W fun e w' => e = .returned (.int .i64 0) ∧ W = w')
    (CR1 : ∀ B' d' W, RdI W B' n xs → Calls Try.prog 59 #[.agg #[.int .i64 0, .int .i64 d, .int .i64 1, .int .i64 8, .int .i64 0, .slice none 0 0], .slice B' n d'] W (RdResN W 0 l ys))
    (CR2 : ∀ B' d' W, RdI W B' l ys → Calls Try.prog 59 #[.agg #[.int .i64 0, .int .i64 d, .int .i64 8, .int .i64 1, .int .i64 0, .slice none 0 0], .slice B' l d'] W (RdResN W 0 n xs))
    (HYB : ∀ k, k < l → fromB (-32767) 32767 [ys.getD k 0] = true)
    (HYX : ∀ i, i < n → ys.getD (8 * i) 0 = xs.getD i 0)
    : Calls Try.prog 12 #[.slice A n c, .int .i64 d, .int .i64 3] w fun e w' => e = .returned (.bool true) ∧ Below w.heap.size w w' := by
  have CCI : Hid (∀ W, RdI W A n xs → Calls Try.prog 18 #[.slice A n c] W (RdOne W n xs)) := fun W h => (copyInts_any A n c xs W hA h (by omega)).mono fun e w' ho => ho.rd h.1
  have CCY : Hid (∀ B' d' W, (B' = none → l = 0 ∧ d' = 0) → RdI W B' l ys → Calls Try.prog 18 #[.slice B' l d'] W (RdOne W l ys)) := fun B' d' W hN h => (copyInts_any B' l d' ys W hN h (by omega)).mono fun e w' ho => ho.rd h.1
  have CSg := Lib.hid CSg
  have CD := Lib.hid CD
  have CR1 := Lib.hid CR1
  have CR2 := Lib.hid CR2
  have HYB := Lib.hid HYB
  have HYX := Lib.hid HYX
  have CWi := Lib.hid (fun W => within_any 3 0 4 W)
  rw [show fromB 0 4 [3] = true by decide] at CWi
  have X0 := Lib.hid hr
  have B0 := Lib.hid (Below.refl w.heap.size w)
  have h24 : ¬ (24 : Int) < (n : Int) := by omega
  have hn0 : (0 : Int) < (n : Int) := by omega
  have hn0N : 0 < n := by omega
  have hn1 : ((n : Int) == 0) = false := by simp; omega
  have w1 : IntKind.i64.wrap ((n : Int) - 1) = (q : Int) := by rw [show (n : Int) - 1 = (q : Int) by omega]; exact IntWalk.i64_in _ (by omega)
  have w2 : IntKind.i64.wrap (8 * (q : Int)) = 8 * (q : Int) := IntWalk.i64_in _ (by omega)
  have w3 : IntKind.i64.wrap (8 * (q : Int) + 1) = (l : Int) := by rw [show 8 * (q : Int) + 1 = (l : Int) by omega]; exact IntWalk.i64_in _ (by omega)
  have h400 : ¬ (400 : Int) < (l : Int) := by omega
  have HQ := Lib.hid (And.intro hq hl)
  have hl4 : l ≤ 400 := by omega
  clear hq hl
  clear hr hA
  go_enter Try.func12, Try.ntmps12
  go_wp2_with fail
  refine (awake_any _).mono ?_
  rintro e w1 ⟨rfl, hb⟩
  have X1 := Lib.hid (X0.out.below hb)
  have B1 := Lib.hid (B0.out.trans (hb.mono B0.out.size))
  clear X0 B0 hb
  go_wp2_with fail
  refine (CSg.out _ X1.out).mono ?_
  rintro e w' ⟨rfl, rfl⟩
  go_wp2_with fail
  refine (CD.out _).mono ?_
  rintro e w' ⟨rfl, rfl⟩
  go_wp2_with fail
  refine (CWi.out _).mono ?_
  rintro e w' ⟨rfl, rfl⟩
  go_wp2_with fail
  refine (CCI.out _ X1.out).mono ?_
  rintro e w2 ⟨⟨AXa, cXa, rfl, hrXa⟩, hb⟩
  have X2 := Lib.hid (X1.out.below hb)
  have B2 := Lib.hid (B1.out.trans (hb.mono B1.out.size))
  clear X1 B1 hb
  have Xa2 := Lib.hid hrXa
  clear hrXa
  go_wp2_with fail
  refine (CR1.out _ _ _ Xa2.out).mono ?_
  rintro e w3 ⟨⟨AYa, cYa, rfl, hrYa, _, hNYa⟩, hb⟩
  have X3 := Lib.hid (X2.out.below hb)
  have B3 := Lib.hid (B2.out.trans (hb.mono B2.out.size))
  have Xa3 := Lib.hid (Xa2.out.below hb)
  clear X2 B2 Xa2 hb
  have Ya3 := Lib.hid hrYa
  have NYa := Lib.hid hNYa
  clear hrYa hNYa
  go_wp2
  go_loopw [10] (fun i wr => ∃ k : Nat, k ≤ n ∧ i = .int .i64 k ∧ Hid (∃ j, wr = w3.drewN j)) (fun i _ => n - (intOf i).toNat)
  case atStart => exact ⟨0, Nat.zero_le _, rfl, 0, rfl⟩
  case round =>
    obtain ⟨k, hk, rfl, HJ⟩ := hrel
    obtain ⟨j, hj⟩ := HJ.out
    by_cases hlt : k < n
    · obtain ⟨i, hi⟩ : ∃ i, 8 * k = i := ⟨_, rfl⟩
      have hil : i < l := by have := HQ.out; omega
      obtain ⟨ay, rfl, _, hcy⟩ := (Ya3.out.drewN j).2 (by omega)
      have hck := hcy i hil
      obtain ⟨ax, rfl, _, hcx⟩ := (X3.out.drewN j).2 (by omega)
      have hcx := hcx k hlt
      rw [← hj] at hck hcx
      have hyx := HYX.out k hlt
      rw [hi] at hyx
      rw [hyx] at hck
      obtain ⟨v, hv⟩ : ∃ v, xs.getD k 0 = v := ⟨_, rfl⟩
      rw [hv] at hck hcx
      have w4 : IntKind.i64.wrap (8 * (k : Int)) = (i : Int) := by rw [show 8 * (k : Int) = (i : Int) by omega]; exact IntWalk.i64_in _ (by omega)
      have hilI : (i : Int) < (l : Int) := by omega
      have hkI : (k : Int) < (n : Int) := by omega
      have HJ' := Lib.hid hj
      clear hcy hyx hv hi hj HJ
      go_wp2
      go_quiet (fail)
      go_wp2
      go_roundw
      case rel => exact ⟨k + 1, by omega, by go_num, by rw [HJ'.out]; exact ⟨_, World.drewN_drewN _ _ _⟩⟩
      case measure => simp [intOf]; omega
    · obtain rfl : n = k := by omega
      have hkI : ¬ (n : Int) < (n : Int) := by omega
      clear hlt
      have X4 := Lib.hid (X3.out.drewN j)
      have B4 := Lib.hid (belowDrewN B3.out j)
      have Ya4 := Lib.hid (Ya3.out.drewN j)
      clear X3 B3 Ya3
      rw [← hj] at X4 B4 Ya4
      clear hj HJ
      obtain ⟨w4, hw4⟩ : ∃ W, W = wr := ⟨_, rfl⟩
      subst hw4
      go_wp2
      go_loop [11] (fun i => ∃ k : Nat, k ≤ l ∧ i = .int .i64 k) (fun i => l - (intOf i).toNat)
      case atStart => exact ⟨0, Nat.zero_le _, rfl⟩
      case round =>
        obtain ⟨k, hk, rfl⟩ := hrel
        by_cases hlt : k < l
        · obtain ⟨ay, rfl, _, hc⟩ := Ya4.out.2 (by omega)
          have hck := hc k hlt
          have CY := Lib.hid (fun w => within_any (ys.getD k 0) (-32767) 32767 w)
          rw [HYB.out k hlt] at CY
          obtain ⟨yk, hyk⟩ : ∃ y, ys.getD k 0 = y := ⟨_, rfl⟩
          rw [hyk] at hck CY
          have hkI : (k : Int) < (l : Int) := by omega
          clear hc hyk
          go_wp2_with fail
          refine (CY.out _).mono ?_
          rintro e w' ⟨rfl, rfl⟩
          go_wp2
          go_round
          case rel => exact ⟨k + 1, by omega, by go_num⟩
          case measure => simp [intOf]; omega
        · obtain rfl : l = k := by omega
          have hkI : ¬ (l : Int) < (l : Int) := by omega
          clear hlt
          go_wp2_with fail
          refine (CCY.out _ _ _ NYa.out Ya4.out).mono ?_
          rintro e w5 ⟨⟨AYb, cYb, rfl, hrYb⟩, hb⟩
          have X5 := Lib.hid (X4.out.below hb)
          have B5 := Lib.hid (B4.out.trans (hb.mono B4.out.size))
          have Ya5 := Lib.hid (Ya4.out.below hb)
          clear X4 B4 Ya4 hb
          have Yb5 := Lib.hid hrYb
          clear hrYb
          go_wp2_with fail
          refine (CR2.out _ _ _ Yb5.out).mono ?_
          rintro e w6 ⟨⟨AZa, cZa, rfl, hrZa, _, _⟩, hb⟩
          have X6 := Lib.hid (X5.out.below hb)
          have B6 := Lib.hid (B5.out.trans (hb.mono B5.out.size))
          have Ya6 := Lib.hid (Ya5.out.below hb)
          have Yb6 := Lib.hid (Yb5.out.below hb)
          clear X5 B5 Ya5 Yb5 hb
          have Za6 := Lib.hid hrZa
          clear hrZa
          go_wp2_with fail
          refine (ints_same _ _ _ _ _ _ _ Za6.out X6.out (by omega)).mono ?_
          rintro e w' ⟨rfl, kk, rfl⟩
          have X7 := Lib.hid (X6.out.drewN kk)
          have B7 := Lib.hid (belowDrewN B6.out kk)
          have Ya7 := Lib.hid (Ya6.out.drewN kk)
          have Za7 := Lib.hid (Za6.out.drewN kk)
          clear X6 B6 Ya6 Za6
          obtain ⟨w7, hw7⟩ : ∃ W, w6.drewN kk = W := ⟨_, rfl⟩
          rw [hw7] at X7 B7 Ya7 Za7 ⊢
          clear hw7
          go_wp2
          go_ret
          exact ⟨by simp, B7.out⟩
set_option maxRecDepth 100000 in
set_option maxHeartbeats 4000000 in
theorem bkw_4_z (A : Option Addr)  (c : Nat) (d : Int) (xs ys : List Int) (w : World)  (hr : RdI w A 0 xs) (hn : 0 ≤ 24) (hA : A = none → 0 = 0 ∧ c = 0)
    (CSg : ∀ W, RdI W A 0 xs → Calls Try.prog 19 #[.slice A 0 c] W fun e w' => e = .returned (.int .i64 0) ∧ W = w')
    (CD : ∀ W, Calls Try.prog 23 #[.int .i64 d] W fun e w' => e = .returned (.int .i64 0) ∧ W = w')
    (CR1 : ∀ B' d' W, RdI W B' 0 xs → Calls Try.prog 59 #[.agg #[.int .i64 0, .int .i64 d, .int .i64 1, .int .i64 16, .int .i64 0, .slice none 0 0], .slice B' 0 d'] W (RdResN W 0 0 ys))
    (CR2 : ∀ B' d' W, RdI W B' 0 ys → Calls Try.prog 59 #[.agg #[.int .i64 0, .int .i64 d, .int .i64 16, .int .i64 1, .int .i64 0, .slice none 0 0], .slice B' 0 d'] W (RdResN W 0 0 xs))
    (HYB : ∀ k, k < 0 → fromB (-32767) 32767 [ys.getD k 0] = true)
    : Calls Try.prog 12 #[.slice A 0 c, .int .i64 d, .int .i64 4] w fun e w' => e = .returned (.bool true) ∧ Below w.heap.size w w' := by
  have CCI : Hid (∀ W, RdI W A 0 xs → Calls Try.prog 18 #[.slice A 0 c] W (RdOne W 0 xs)) := fun W h => (copyInts_any A 0 c xs W hA h (by omega)).mono fun e w' ho => ho.rd h.1
  have CCY : Hid (∀ B' d' W, (B' = none → 0 = 0 ∧ d' = 0) → RdI W B' 0 ys → Calls Try.prog 18 #[.slice B' 0 d'] W (RdOne W 0 ys)) := fun B' d' W hN h => (copyInts_any B' 0 d' ys W hN h (by omega)).mono fun e w' ho => ho.rd h.1
  have CSg := Lib.hid CSg
  have CD := Lib.hid CD
  have CR1 := Lib.hid CR1
  have CR2 := Lib.hid CR2
  have HYB := Lib.hid HYB
  have CWi := Lib.hid (fun W => within_any 4 0 4 W)
  rw [show fromB 0 4 [4] = true by decide] at CWi
  have X0 := Lib.hid hr
  have B0 := Lib.hid (Below.refl w.heap.size w)
  clear hr hA
  go_enter Try.func12, Try.ntmps12
  go_wp2_with fail
  refine (awake_any _).mono ?_
  rintro e w1 ⟨rfl, hb⟩
  have X1 := Lib.hid (X0.out.below hb)
  have B1 := Lib.hid (B0.out.trans (hb.mono B0.out.size))
  clear X0 B0 hb
  go_wp2_with fail
  refine (CSg.out _ X1.out).mono ?_
  rintro e w' ⟨rfl, rfl⟩
  go_wp2_with fail
  refine (CD.out _).mono ?_
  rintro e w' ⟨rfl, rfl⟩
  go_wp2_with fail
  refine (CWi.out _).mono ?_
  rintro e w' ⟨rfl, rfl⟩
  go_wp2_with fail
  refine (CCI.out _ X1.out).mono ?_
  rintro e w2 ⟨⟨AXa, cXa, rfl, hrXa⟩, hb⟩
  have X2 := Lib.hid (X1.out.below hb)
  have B2 := Lib.hid (B1.out.trans (hb.mono B1.out.size))
  clear X1 B1 hb
  have Xa2 := Lib.hid hrXa
  clear hrXa
  go_wp2_with fail
  refine (CR1.out _ _ _ Xa2.out).mono ?_
  rintro e w3 ⟨⟨AYa, cYa, rfl, hrYa, _, hNYa⟩, hb⟩
  have X3 := Lib.hid (X2.out.below hb)
  have B3 := Lib.hid (B2.out.trans (hb.mono B2.out.size))
  have Xa3 := Lib.hid (Xa2.out.below hb)
  clear X2 B2 Xa2 hb
  have Ya3 := Lib.hid hrYa
  have NYa := Lib.hid hNYa
  clear hrYa hNYa
  go_wp2
  go_loop [10] (fun i => i = .int .i64 0) (fun i => 0 - (intOf i).toNat)
  case atStart => rfl
  case round =>
    subst hrel
    go_wp2
    go_loop [11] (fun i => i = .int .i64 0) (fun i => 0 - (intOf i).toNat)
    case atStart => rfl
    case round =>
      subst hrel
      go_wp2_with fail
      refine (CCY.out _ _ _ NYa.out Ya3.out).mono ?_
      rintro e w4 ⟨⟨AYb, cYb, rfl, hrYb⟩, hb⟩
      have X4 := Lib.hid (X3.out.below hb)
      have B4 := Lib.hid (B3.out.trans (hb.mono B3.out.size))
      have Ya4 := Lib.hid (Ya3.out.below hb)
      clear X3 B3 Ya3 hb
      have Yb4 := Lib.hid hrYb
      clear hrYb
      go_wp2_with fail
      refine (CR2.out _ _ _ Yb4.out).mono ?_
      rintro e w5 ⟨⟨AZa, cZa, rfl, hrZa, _, _⟩, hb⟩
      have X5 := Lib.hid (X4.out.below hb)
      have B5 := Lib.hid (B4.out.trans (hb.mono B4.out.size))
      have Ya5 := Lib.hid (Ya4.out.below hb)
      have Yb5 := Lib.hid (Yb4.out.below hb)
      clear X4 B4 Ya4 Yb4 hb
      have Za5 := Lib.hid hrZa
      clear hrZa
      go_wp2_with fail
      refine (ints_same _ _ _ _ _ _ _ Za5.out X5.out (by omega)).mono ?_
      rintro e w' ⟨rfl, kk, rfl⟩
      have X6 := Lib.hid (X5.out.drewN kk)
      have B6 := Lib.hid (belowDrewN B5.out kk)
      have Ya6 := Lib.hid (Ya5.out.drewN kk)
      have Za6 := Lib.hid (Za5.out.drewN kk)
      clear X5 B5 Ya5 Za5
      obtain ⟨w6, hw6⟩ : ∃ W, w5.drewN kk = W := ⟨_, rfl⟩
      rw [hw6] at X6 B6 Ya6 Za6 ⊢
      clear hw6
      go_wp2
      go_ret
      exact ⟨by simp, B6.out⟩
set_option maxRecDepth 100000 in
set_option maxHeartbeats 4000000 in
theorem bkw_4_k (A : Option Addr) (n : Nat) (c : Nat) (d : Int) (xs ys : List Int) (w : World) (l q : Nat) (hq : n = q + 1) (hl : l = 16 * q + 1) (hr : RdI w A n xs) (hn : n ≤ 24) (hA : A = none → n = 0 ∧ c = 0)
    (CSg : ∀ W, RdI W A n xs → Calls Try.prog 19 #[.slice A n c] W fun e w' => e = .returned (.int .i64 0) ∧ W = w')
    (CD : ∀ W, Calls Try.prog 23 #[.int .i64 d] W fun e w' => e = .returned (.int .i64 0) ∧ W = w')
    (CR1 : ∀ B' d' W, RdI W B' n xs → Calls Try.prog 59 #[.agg #[.int .i64 0, .int .i64 d, .int .i64 1, .int .i64 16, .int .i64 0, .slice none 0 0], .slice B' n d'] W (RdResN W 0 l ys))
    (CR2 : ∀ B' d' W, RdI W B' l ys → Calls Try.prog 59 #[.agg #[.int .i64 0, .int .i64 d, .int .i64 16, .int .i64 1, .int .i64 0, .slice none 0 0], .slice B' l d'] W (RdResN W 0 n xs))
    (HYB : ∀ k, k < l → fromB (-32767) 32767 [ys.getD k 0] = true)
    (HYX : ∀ i, i < n → ys.getD (16 * i) 0 = xs.getD i 0)
    : Calls Try.prog 12 #[.slice A n c, .int .i64 d, .int .i64 4] w fun e w' => e = .returned (.bool true) ∧ Below w.heap.size w w' := by
  have CCI : Hid (∀ W, RdI W A n xs → Calls Try.prog 18 #[.slice A n c] W (RdOne W n xs)) := fun W h => (copyInts_any A n c xs W hA h (by omega)).mono fun e w' ho => ho.rd h.1
  have CCY : Hid (∀ B' d' W, (B' = none → l = 0 ∧ d' = 0) → RdI W B' l ys → Calls Try.prog 18 #[.slice B' l d'] W (RdOne W l ys)) := fun B' d' W hN h => (copyInts_any B' l d' ys W hN h (by omega)).mono fun e w' ho => ho.rd h.1
  have CSg := Lib.hid CSg
  have CD := Lib.hid CD
  have CR1 := Lib.hid CR1
  have CR2 := Lib.hid CR2
  have HYB := Lib.hid HYB
  have HYX := Lib.hid HYX
  have CWi := Lib.hid (fun W => within_any 4 0 4 W)
  rw [show fromB 0 4 [4] = true by decide] at CWi
  have X0 := Lib.hid hr
  have B0 := Lib.hid (Below.refl w.heap.size w)
  have h24 : ¬ (24 : Int) < (n : Int) := by omega
  have hn0 : (0 : Int) < (n : Int) := by omega
  have hn0N : 0 < n := by omega
  have hn1 : ((n : Int) == 0) = false := by simp; omega
  have w1 : IntKind.i64.wrap ((n : Int) - 1) = (q : Int) := by rw [show (n : Int) - 1 = (q : Int) by omega]; exact IntWalk.i64_in _ (by omega)
  have w2 : IntKind.i64.wrap (16 * (q : Int)) = 16 * (q : Int) := IntWalk.i64_in _ (by omega)
  have w3 : IntKind.i64.wrap (16 * (q : Int) + 1) = (l : Int) := by rw [show 16 * (q : Int) + 1 = (l : Int) by omega]; exact IntWalk.i64_in _ (by omega)
  have h400 : ¬ (400 : Int) < (l : Int) := by omega
  have HQ := Lib.hid (And.intro hq hl)
  have hl4 : l ≤ 400 := by omega
  clear hq hl
  clear hr hA
  go_enter Try.func12, Try.ntmps12
  go_wp2_with fail
  refine (awake_any _).mono ?_
  rintro e w1 ⟨rfl, hb⟩
  have X1 := Lib.hid (X0.out.below hb)
  have B1 := Lib.hid (B0.out.trans (hb.mono B0.out.size))
  clear X0 B0 hb
  go_wp2_with fail
  refine (CSg.out _ X1.out).mono ?_
  rintro e w' ⟨rfl, rfl⟩
  go_wp2_with fail
  refine (CD.out _).mono ?_
  rintro e w' ⟨rfl, rfl⟩
  go_wp2_with fail
  refine (CWi.out _).mono ?_
  rintro e w' ⟨rfl, rfl⟩
  go_wp2_with fail
  refine (CCI.out _ X1.out).mono ?_
  rintro e w2 ⟨⟨AXa, cXa, rfl, hrXa⟩, hb⟩
  have X2 := Lib.hid (X1.out.below hb)
  have B2 := Lib.hid (B1.out.trans (hb.mono B1.out.size))
  clear X1 B1 hb
  have Xa2 := Lib.hid hrXa
  clear hrXa
  go_wp2_with fail
  refine (CR1.out _ _ _ Xa2.out).mono ?_
  rintro e w3 ⟨⟨AYa, cYa, rfl, hrYa, _, hNYa⟩, hb⟩
  have X3 := Lib.hid (X2.out.below hb)
  have B3 := Lib.hid (B2.out.trans (hb.mono B2.out.size))
  have Xa3 := Lib.hid (Xa2.out.below hb)
  clear X2 B2 Xa2 hb
  have Ya3 := Lib.hid hrYa
  have NYa := Lib.hid hNYa
  clear hrYa hNYa
  go_wp2
  go_loopw [10] (fun i wr => ∃ k : Nat, k ≤ n ∧ i = .int .i64 k ∧ Hid (∃ j, wr = w3.drewN j)) (fun i _ => n - (intOf i).toNat)
  case atStart => exact ⟨0, Nat.zero_le _, rfl, 0, rfl⟩
  case round =>
    obtain ⟨k, hk, rfl, HJ⟩ := hrel
    obtain ⟨j, hj⟩ := HJ.out
    by_cases hlt : k < n
    · obtain ⟨i, hi⟩ : ∃ i, 16 * k = i := ⟨_, rfl⟩
      have hil : i < l := by have := HQ.out; omega
      obtain ⟨ay, rfl, _, hcy⟩ := (Ya3.out.drewN j).2 (by omega)
      have hck := hcy i hil
      obtain ⟨ax, rfl, _, hcx⟩ := (X3.out.drewN j).2 (by omega)
      have hcx := hcx k hlt
      rw [← hj] at hck hcx
      have hyx := HYX.out k hlt
      rw [hi] at hyx
      rw [hyx] at hck
      obtain ⟨v, hv⟩ : ∃ v, xs.getD k 0 = v := ⟨_, rfl⟩
      rw [hv] at hck hcx
      have w4 : IntKind.i64.wrap (16 * (k : Int)) = (i : Int) := by rw [show 16 * (k : Int) = (i : Int) by omega]; exact IntWalk.i64_in _ (by omega)
      have hilI : (i : Int) < (l : Int) := by omega
      have hkI : (k : Int) < (n : Int) := by omega
      have HJ' := Lib.hid hj
      clear hcy hyx hv hi hj HJ
      go_wp2
      go_quiet (fail)
      go_wp2
      go_roundw
      case rel => exact ⟨k + 1, by omega, by go_num, by rw [HJ'.out]; exact ⟨_, World.drewN_drewN _ _ _⟩⟩
      case measure => simp [intOf]; omega
    · obtain rfl : n = k := by omega
      have hkI : ¬ (n : Int) < (n : Int) := by omega
      clear hlt
      have X4 := Lib.hid (X3.out.drewN j)
      have B4 := Lib.hid (belowDrewN B3.out j)
      have Ya4 := Lib.hid (Ya3.out.drewN j)
      clear X3 B3 Ya3
      rw [← hj] at X4 B4 Ya4
      clear hj HJ
      obtain ⟨w4, hw4⟩ : ∃ W, W = wr := ⟨_, rfl⟩
      subst hw4
      go_wp2
      go_loop [11] (fun i => ∃ k : Nat, k ≤ l ∧ i = .int .i64 k) (fun i => l - (intOf i).toNat)
      case atStart => exact ⟨0, Nat.zero_le _, rfl⟩
      case round =>
        obtain ⟨k, hk, rfl⟩ := hrel
        by_cases hlt : k < l
        · obtain ⟨ay, rfl, _, hc⟩ := Ya4.out.2 (by omega)
          have hck := hc k hlt
          have CY := Lib.hid (fun w => within_any (ys.getD k 0) (-32767) 32767 w)
          rw [HYB.out k hlt] at CY
          obtain ⟨yk, hyk⟩ : ∃ y, ys.getD k 0 = y := ⟨_, rfl⟩
          rw [hyk] at hck CY
          have hkI : (k : Int) < (l : Int) := by omega
          clear hc hyk
          go_wp2_with fail
          refine (CY.out _).mono ?_
          rintro e w' ⟨rfl, rfl⟩
          go_wp2
          go_round
          case rel => exact ⟨k + 1, by omega, by go_num⟩
          case measure => simp [intOf]; omega
        · obtain rfl : l = k := by omega
          have hkI : ¬ (l : Int) < (l : Int) := by omega
          clear hlt
          go_wp2_with fail
          refine (CCY.out _ _ _ NYa.out Ya4.out).mono ?_
          rintro e w5 ⟨⟨AYb, cYb, rfl, hrYb⟩, hb⟩
          have X5 := Lib.hid (X4.out.below hb)
          have B5 := Lib.hid (B4.out.trans (hb.mono B4.out.size))
          have Ya5 := Lib.hid (Ya4.out.below hb)
          clear X4 B4 Ya4 hb
          have Yb5 := Lib.hid hrYb
          clear hrYb
          go_wp2_with fail
          refine (CR2.out _ _ _ Yb5.out).mono ?_
          rintro e w6 ⟨⟨AZa, cZa, rfl, hrZa, _, _⟩, hb⟩
          have X6 := Lib.hid (X5.out.below hb)
          have B6 := Lib.hid (B5.out.trans (hb.mono B5.out.size))
          have Ya6 := Lib.hid (Ya5.out.below hb)
          have Yb6 := Lib.hid (Yb5.out.below hb)
          clear X5 B5 Ya5 Yb5 hb
          have Za6 := Lib.hid hrZa
          clear hrZa
          go_wp2_with fail
          refine (ints_same _ _ _ _ _ _ _ Za6.out X6.out (by omega)).mono ?_
          rintro e w' ⟨rfl, kk, rfl⟩
          have X7 := Lib.hid (X6.out.drewN kk)
          have B7 := Lib.hid (belowDrewN B6.out kk)
          have Ya7 := Lib.hid (Ya6.out.drewN kk)
          have Za7 := Lib.hid (Za6.out.drewN kk)
          clear X6 B6 Ya6 Za6
          obtain ⟨w7, hw7⟩ : ∃ W, w6.drewN kk = W := ⟨_, rfl⟩
          rw [hw7] at X7 B7 Ya7 Za7 ⊢
          clear hw7
          go_wp2
          go_ret
          exact ⟨by simp, B7.out⟩

end Go.Proofs.Ytghpofhpkbgckaa


namespace Go.Proofs.Ytghpofhpkbgckaa
open Go.RowKit

theorem sigE_of' {xs : List Int} (hl : xs.length ≤ 400) (h : ∀ x ∈ xs, -32767 ≤ x ∧ x ≤ 32767) : sigE xs = 0 := by
  show (if 400 < xs.length then (8 : Int) else rngE (-32767) 32767 xs) = 0
  rw [if_neg (by omega)]
  unfold rngE
  rw [if_pos]
  unfold fromB
  rw [List.all_eq_true]
  intro x hx
  have := h x hx
  simp; omega
theorem back_walk (A : Option Addr) (n c : Nat) (xs : List Int) (d p : Int) (w : World) (hr : RdI w A n xs) (hn0 : n ≤ 9223372036854775807) (hA : A = none → n = 0 ∧ c = 0) :
    Calls Try.prog 12 #[.slice A n c, .int .i64 d, .int .i64 p] w fun e w' => e = .returned (.bool true) ∧ Below w.heap.size w w' := by
  by_cases hn : n ≤ 24
  rotate_left
  · exact bkw_far A n c d p xs w (by omega) hn0
  have CSg := fun W (h : RdI W A n xs) => refSignalErr_any A n c xs W h (by omega)
  have CD := fun W => refDegreeErr_any d W
  have CWi := fun W => within_any p 0 4 W
  by_cases hS : sigE xs = 0
  rotate_left
  · exact bkw_S A n c d p xs w hn _ hS hr CSg
  rw [hS] at CSg
  by_cases hD : degE d = 0
  rotate_left
  · exact bkw_D A n c d p xs w hn _ hD hr CSg CD
  rw [hD] at CD
  by_cases hp : 0 ≤ p ∧ p ≤ 4
  rotate_left
  · rw [show fromB 0 4 [p] = false by rw [fromB_one]; exact decide_eq_false hp] at CWi
    exact bkw_P A n c d p xs w hn hr CSg CD CWi
  have hd : d = 1 ∨ d = 3 := by
    unfold degE at hD
    by_cases h : d = 1 ∨ d = 3
    · exact h
    · rw [if_neg h] at hD; cases hD
  have hxs := (sigE_zero hS).2
  have hxl := hr.1
  rcases (by omega : p = 0 ∨ p = 1 ∨ p = 2 ∨ p = 3 ∨ p = 4) with rfl | rfl | rfl | rfl | rfl
  · have h1 := fine_res (d := d) (xs := xs) (N := 1) (m := 64) (n := n) (by omega) (by omega) (by omega) hn
    have h2 := back_res hd hxs (N := 1) (m := 64) (n := n) (by omega) (by omega) (by omega) hxl hn rfl
    have hfl := fine_len d xs 1 n
    have hfb := fine_bd d xs 1 n
    have hfa := fun i (hi : i < n) => fine_at hd hxs (N := 1) (m := 64) (by omega) (by omega) hxl hi
    obtain ⟨ys, hys⟩ : ∃ ys, fineL d xs 1 n = ys := ⟨_, rfl⟩
    rw [hys] at h1 h2 hfl hfb hfa
    have hys2 : sigE ys = 0 := sigE_of' (by rw [hfl]; split <;> omega) hfb
    have CR1 := fun B' d' W (h : RdI W B' n xs) => Resampled_ratio hd (p := 1) (q := 1) (by omega) (by omega) B' n d' xs ys W h hS h1
    have CR2 := fun B' d' W (h : RdI W B' ys.length ys) => Resampled_ratio hd (p := 1) (q := 1) (by omega) (by omega) B' ys.length d' ys xs W h hys2 h2
    have HYB : ∀ k, k < ys.length → fromB (-32767) 32767 [ys.getD k 0] = true := fun k _ => by
      rw [fromB_one]
      exact decide_eq_true (getD_bd (by omega) hfb k)
    rcases Nat.eq_zero_or_pos n with rfl | hpos
    · rw [if_pos rfl] at hfl
      rw [hfl] at CR2 HYB
      exact bkw_0_z A c d xs ys w hr hn hA CSg CD (fun B' d' W h => (CR1 B' d' W h).mono fun e w' ho => ho.rdN hfl) (fun B' d' W h => (CR2 B' d' W h).mono fun e w' ho => ho.rdN hxl) HYB
    · rw [if_neg (by omega)] at hfl
      obtain ⟨l, hl⟩ : ∃ l, ys.length = l := ⟨_, rfl⟩
      rw [hl] at CR2 HYB hfl
      exact bkw_0_k A n c d xs ys w l (n - 1) (by omega) hfl hr hn hA CSg CD (fun B' d' W h => (CR1 B' d' W h).mono fun e w' ho => ho.rdN hl) (fun B' d' W h => (CR2 B' d' W h).mono fun e w' ho => ho.rdN hxl) HYB hfa
  · have h1 := fine_res (d := d) (xs := xs) (N := 2) (m := 32) (n := n) (by omega) (by omega) (by omega) hn
    have h2 := back_res hd hxs (N := 2) (m := 32) (n := n) (by omega) (by omega) (by omega) hxl hn rfl
    have hfl := fine_len d xs 2 n
    have hfb := fine_bd d xs 2 n
    have hfa := fun i (hi : i < n) => fine_at hd hxs (N := 2) (m := 32) (by omega) (by omega) hxl hi
    obtain ⟨ys, hys⟩ : ∃ ys, fineL d xs 2 n = ys := ⟨_, rfl⟩
    rw [hys] at h1 h2 hfl hfb hfa
    have hys2 : sigE ys = 0 := sigE_of' (by rw [hfl]; split <;> omega) hfb
    have CR1 := fun B' d' W (h : RdI W B' n xs) => Resampled_ratio hd (p := 1) (q := 2) (by omega) (by omega) B' n d' xs ys W h hS h1
    have CR2 := fun B' d' W (h : RdI W B' ys.length ys) => Resampled_ratio hd (p := 2) (q := 1) (by omega) (by omega) B' ys.length d' ys xs W h hys2 h2
    have HYB : ∀ k, k < ys.length → fromB (-32767) 32767 [ys.getD k 0] = true := fun k _ => by
      rw [fromB_one]
      exact decide_eq_true (getD_bd (by omega) hfb k)
    rcases Nat.eq_zero_or_pos n with rfl | hpos
    · rw [if_pos rfl] at hfl
      rw [hfl] at CR2 HYB
      exact bkw_1_z A c d xs ys w hr hn hA CSg CD (fun B' d' W h => (CR1 B' d' W h).mono fun e w' ho => ho.rdN hfl) (fun B' d' W h => (CR2 B' d' W h).mono fun e w' ho => ho.rdN hxl) HYB
    · rw [if_neg (by omega)] at hfl
      obtain ⟨l, hl⟩ : ∃ l, ys.length = l := ⟨_, rfl⟩
      rw [hl] at CR2 HYB hfl
      exact bkw_1_k A n c d xs ys w l (n - 1) (by omega) hfl hr hn hA CSg CD (fun B' d' W h => (CR1 B' d' W h).mono fun e w' ho => ho.rdN hl) (fun B' d' W h => (CR2 B' d' W h).mono fun e w' ho => ho.rdN hxl) HYB hfa
  · have h1 := fine_res (d := d) (xs := xs) (N := 4) (m := 16) (n := n) (by omega) (by omega) (by omega) hn
    have h2 := back_res hd hxs (N := 4) (m := 16) (n := n) (by omega) (by omega) (by omega) hxl hn rfl
    have hfl := fine_len d xs 4 n
    have hfb := fine_bd d xs 4 n
    have hfa := fun i (hi : i < n) => fine_at hd hxs (N := 4) (m := 16) (by omega) (by omega) hxl hi
    obtain ⟨ys, hys⟩ : ∃ ys, fineL d xs 4 n = ys := ⟨_, rfl⟩
    rw [hys] at h1 h2 hfl hfb hfa
    have hys2 : sigE ys = 0 := sigE_of' (by rw [hfl]; split <;> omega) hfb
    have CR1 := fun B' d' W (h : RdI W B' n xs) => Resampled_ratio hd (p := 1) (q := 4) (by omega) (by omega) B' n d' xs ys W h hS h1
    have CR2 := fun B' d' W (h : RdI W B' ys.length ys) => Resampled_ratio hd (p := 4) (q := 1) (by omega) (by omega) B' ys.length d' ys xs W h hys2 h2
    have HYB : ∀ k, k < ys.length → fromB (-32767) 32767 [ys.getD k 0] = true := fun k _ => by
      rw [fromB_one]
      exact decide_eq_true (getD_bd (by omega) hfb k)
    rcases Nat.eq_zero_or_pos n with rfl | hpos
    · rw [if_pos rfl] at hfl
      rw [hfl] at CR2 HYB
      exact bkw_2_z A c d xs ys w hr hn hA CSg CD (fun B' d' W h => (CR1 B' d' W h).mono fun e w' ho => ho.rdN hfl) (fun B' d' W h => (CR2 B' d' W h).mono fun e w' ho => ho.rdN hxl) HYB
    · rw [if_neg (by omega)] at hfl
      obtain ⟨l, hl⟩ : ∃ l, ys.length = l := ⟨_, rfl⟩
      rw [hl] at CR2 HYB hfl
      exact bkw_2_k A n c d xs ys w l (n - 1) (by omega) hfl hr hn hA CSg CD (fun B' d' W h => (CR1 B' d' W h).mono fun e w' ho => ho.rdN hl) (fun B' d' W h => (CR2 B' d' W h).mono fun e w' ho => ho.rdN hxl) HYB hfa
  · have h1 := fine_res (d := d) (xs := xs) (N := 8) (m := 8) (n := n) (by omega) (by omega) (by omega) hn
    have h2 := back_res hd hxs (N := 8) (m := 8) (n := n) (by omega) (by omega) (by omega) hxl hn rfl
    have hfl := fine_len d xs 8 n
    have hfb := fine_bd d xs 8 n
    have hfa := fun i (hi : i < n) => fine_at hd hxs (N := 8) (m := 8) (by omega) (by omega) hxl hi
    obtain ⟨ys, hys⟩ : ∃ ys, fineL d xs 8 n = ys := ⟨_, rfl⟩
    rw [hys] at h1 h2 hfl hfb hfa
    have hys2 : sigE ys = 0 := sigE_of' (by rw [hfl]; split <;> omega) hfb
    have CR1 := fun B' d' W (h : RdI W B' n xs) => Resampled_ratio hd (p := 1) (q := 8) (by omega) (by omega) B' n d' xs ys W h hS h1
    have CR2 := fun B' d' W (h : RdI W B' ys.length ys) => Resampled_ratio hd (p := 8) (q := 1) (by omega) (by omega) B' ys.length d' ys xs W h hys2 h2
    have HYB : ∀ k, k < ys.length → fromB (-32767) 32767 [ys.getD k 0] = true := fun k _ => by
      rw [fromB_one]
      exact decide_eq_true (getD_bd (by omega) hfb k)
    rcases Nat.eq_zero_or_pos n with rfl | hpos
    · rw [if_pos rfl] at hfl
      rw [hfl] at CR2 HYB
      exact bkw_3_z A c d xs ys w hr hn hA CSg CD (fun B' d' W h => (CR1 B' d' W h).mono fun e w' ho => ho.rdN hfl) (fun B' d' W h => (CR2 B' d' W h).mono fun e w' ho => ho.rdN hxl) HYB
    · rw [if_neg (by omega)] at hfl
      obtain ⟨l, hl⟩ : ∃ l, ys.length = l := ⟨_, rfl⟩
      rw [hl] at CR2 HYB hfl
      exact bkw_3_k A n c d xs ys w l (n - 1) (by omega) hfl hr hn hA CSg CD (fun B' d' W h => (CR1 B' d' W h).mono fun e w' ho => ho.rdN hl) (fun B' d' W h => (CR2 B' d' W h).mono fun e w' ho => ho.rdN hxl) HYB hfa
  · have h1 := fine_res (d := d) (xs := xs) (N := 16) (m := 4) (n := n) (by omega) (by omega) (by omega) hn
    have h2 := back_res hd hxs (N := 16) (m := 4) (n := n) (by omega) (by omega) (by omega) hxl hn rfl
    have hfl := fine_len d xs 16 n
    have hfb := fine_bd d xs 16 n
    have hfa := fun i (hi : i < n) => fine_at hd hxs (N := 16) (m := 4) (by omega) (by omega) hxl hi
    obtain ⟨ys, hys⟩ : ∃ ys, fineL d xs 16 n = ys := ⟨_, rfl⟩
    rw [hys] at h1 h2 hfl hfb hfa
    have hys2 : sigE ys = 0 := sigE_of' (by rw [hfl]; split <;> omega) hfb
    have CR1 := fun B' d' W (h : RdI W B' n xs) => Resampled_ratio hd (p := 1) (q := 16) (by omega) (by omega) B' n d' xs ys W h hS h1
    have CR2 := fun B' d' W (h : RdI W B' ys.length ys) => Resampled_ratio hd (p := 16) (q := 1) (by omega) (by omega) B' ys.length d' ys xs W h hys2 h2
    have HYB : ∀ k, k < ys.length → fromB (-32767) 32767 [ys.getD k 0] = true := fun k _ => by
      rw [fromB_one]
      exact decide_eq_true (getD_bd (by omega) hfb k)
    rcases Nat.eq_zero_or_pos n with rfl | hpos
    · rw [if_pos rfl] at hfl
      rw [hfl] at CR2 HYB
      exact bkw_4_z A c d xs ys w hr hn hA CSg CD (fun B' d' W h => (CR1 B' d' W h).mono fun e w' ho => ho.rdN hfl) (fun B' d' W h => (CR2 B' d' W h).mono fun e w' ho => ho.rdN hxl) HYB
    · rw [if_neg (by omega)] at hfl
      obtain ⟨l, hl⟩ : ∃ l, ys.length = l := ⟨_, rfl⟩
      rw [hl] at CR2 HYB hfl
      exact bkw_4_k A n c d xs ys w l (n - 1) (by omega) hfl hr hn hA CSg CD (fun B' d' W h => (CR1 B' d' W h).mono fun e w' ho => ho.rdN hl) (fun B' d' W h => (CR2 B' d' W h).mono fun e w' ho => ho.rdN hxl) HYB hfa

end Go.Proofs.Ytghpofhpkbgckaa

