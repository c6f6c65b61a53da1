import Derived.Test.YtepcciodhppbnaaS9

namespace Go.Proofs.Ytepcciodhppbnaa
open Go.RowKit

/-! ### equalizers as mathematics -/
/-- What the next output contains of the earlier ones. -/
def echoF (f s d a b : Int) : Int := (f * a + s * b) / d
/-- The outputs up to one that is too great, and the error. -/
def eqR (f s d : Int) : Int → Int → List Int → List Int × Int
  | _, _, [] => ([], 0)
  | a, b, x :: l => if absF (x + echoF f s d a b) ≤ 1000000000000000 then ((x + echoF f s d a b) :: (eqR f s d (x + echoF f s d a b) a l).1, (eqR f s d (x + echoF f s d a b) a l).2) else ([], 23)
def rsR (f s d : Int) : Int → Int → List Int → List Int
  | _, _, [] => []
  | a, b, y :: l => (y - echoF f s d a b) :: rsR f s d y a l
/-- The output of an equalizer: it, and the error. -/
def eqO (f s d : Int) (xs : List Int) : List Int := if (eqR f s d 0 0 xs).2 = 0 then (eqR f s d 0 0 xs).1 else []
theorem eqR_01 (f s d : Int) : ∀ (xs : List Int) (a b : Int), (eqR f s d a b xs).2 = 0 ∨ (eqR f s d a b xs).2 = 23
  | [], a, b => .inl rfl
  | x :: l, a, b => by
    unfold eqR
    split
    · exact eqR_01 f s d l _ _
    · exact .inr rfl
theorem absF_le {n m : Int} : absF n ≤ m ↔ -m ≤ n ∧ n ≤ m := by unfold absF; split <;> omega
theorem rsR_len (f s d : Int) : ∀ (xs : List Int) (a b : Int), (rsR f s d a b xs).length = xs.length
  | [], a, b => rfl
  | x :: l, a, b => by simp [rsR, rsR_len f s d l]
theorem eqR_len (f s d : Int) : ∀ (xs : List Int) (a b : Int), (eqR f s d a b xs).2 = 0 → (eqR f s d a b xs).1.length = xs.length
  | [], a, b, _ => rfl
  | x :: l, a, b, h => by
    unfold eqR at h ⊢
    split
    · rename_i h1
      rw [if_pos h1] at h
      simp [eqR_len f s d l _ _ h]
    · rename_i h1
      rw [if_neg h1] at h
      cases h
/-- An input that is restored gives the output again. -/
theorem eqR_rsR (f s d : Int) : ∀ (ys : List Int) (a b : Int), (∀ y ∈ ys, absF y ≤ 1000000000000000) → eqR f s d a b (rsR f s d a b ys) = (ys, 0)
  | [], a, b, _ => rfl
  | y :: l, a, b, h => by
    have e : y - echoF f s d a b + echoF f s d a b = y := by omega
    have ih := eqR_rsR f s d l y a (fun z hz => h z (List.mem_cons_of_mem _ hz))
    simp only [rsR, eqR, e, ih]
    rw [if_pos (h y List.mem_cons_self)]
/-- An output gives its input again. -/
theorem rsR_eqR (f s d : Int) : ∀ (xs : List Int) (a b : Int), (eqR f s d a b xs).2 = 0 → rsR f s d a b (eqR f s d a b xs).1 = xs
  | [], a, b, _ => rfl
  | x :: l, a, b, h => by
    unfold eqR at h ⊢
    split
    · rename_i h1
      rw [if_pos h1] at h
      simp only [rsR]
      rw [rsR_eqR f s d l _ _ h]
      have e : x + echoF f s d a b - echoF f s d a b = x := by omega
      rw [e]
    · rename_i h1
      rw [if_neg h1] at h
      cases h
/-- Outputs are small. -/
theorem eqR_small (f s d : Int) : ∀ (xs : List Int) (a b : Int), ∀ y ∈ (eqR f s d a b xs).1, absF y ≤ 1000000000000000
  | [], a, b, y, hy => by simp [eqR] at hy
  | x :: l, a, b, y, hy => by
    unfold eqR at hy
    split at hy
    · rename_i h1
      rcases List.mem_cons.1 hy with rfl | hy
      · exact h1
      · exact eqR_small f s d l _ _ y hy
    · simp at hy
/-- Equal beginnings have equal beginnings. -/
theorem eqR_take (f s d : Int) : ∀ (xs : List Int) (k : Nat) (a b : Int), (eqR f s d a b xs).2 = 0 → eqR f s d a b (xs.take k) = ((eqR f s d a b xs).1.take k, 0)
  | xs, 0, a, b, h => by simp [eqR]
  | [], k + 1, a, b, h => by simp [eqR]
  | x :: l, k + 1, a, b, h => by
    unfold eqR at h
    split at h
    · rename_i h1
      rw [List.take_succ_cons]
      have ih := eqR_take f s d l k _ _ h
      have e1 : eqR f s d a b (x :: l) = ((x + echoF f s d a b) :: (eqR f s d (x + echoF f s d a b) a l).1, (eqR f s d (x + echoF f s d a b) a l).2) := by rw [eqR, if_pos h1]
      rw [e1, eqR, if_pos h1, ih]
      simp
    · cases h
theorem mul_abs_bd {f a A B : Int} (hf : absF f = A) (ha : -B ≤ a ∧ a ≤ B) : -(A * B) ≤ f * a ∧ f * a ≤ A * B := by
  have h0 := absF_bd f A (absF_le.1 (Int.le_of_eq hf))
  exact mul_bd (absF_le.1 (Int.le_of_eq hf)) ha (by omega) (by omega)
/-- What is bounded stays so. -/
theorem echo_bd {f s d a b B m : Int} (hd : 0 < d) (hB : 0 ≤ B) (hm : strF f s * B ≤ (B - m) * d) (ha : -B ≤ a ∧ a ≤ B) (hb : -B ≤ b ∧ b ≤ B) : -(B - m) ≤ echoF f s d a b ∧ echoF f s d a b ≤ B - m := by
  have h1 := mul_abs_bd (f := f) rfl ha
  have h2 := mul_abs_bd (f := s) rfl hb
  have e : strF f s * B = absF f * B + absF s * B := by unfold strF; rw [Int.add_mul]
  rw [e] at hm
  unfold echoF
  constructor
  · rw [Int.le_ediv_iff_mul_le hd, Int.neg_mul]
    omega
  · have : (f * a + s * b) / d < B - m + 1 := by
      rw [Int.ediv_lt_iff_lt_mul hd, Int.add_mul]
      omega
    omega
theorem eqR_bounded (f s d : Int) {B m : Int} (hd : 0 < d) (hB : 0 ≤ B) (hB2 : B ≤ 1000000000000000) (hm : strF f s * B ≤ (B - m) * d) :
    ∀ (xs : List Int) (a b : Int), (-B ≤ a ∧ a ≤ B) → (-B ≤ b ∧ b ≤ B) → (∀ x ∈ xs, -m ≤ x ∧ x ≤ m) → (eqR f s d a b xs).2 = 0 ∧ ∀ y ∈ (eqR f s d a b xs).1, -B ≤ y ∧ y ≤ B
  | [], a, b, _, _, _ => ⟨rfl, by simp [eqR]⟩
  | x :: l, a, b, ha, hb, hx => by
    have h1 := echo_bd hd hB hm ha hb
    have h2 := hx x List.mem_cons_self
    have h3 : -B ≤ x + echoF f s d a b ∧ x + echoF f s d a b ≤ B := by omega
    have ih := eqR_bounded f s d hd hB hB2 hm l (x + echoF f s d a b) a h3 ha (fun z hz => hx z (List.mem_cons_of_mem _ hz))
    have h4 : absF (x + echoF f s d a b) ≤ 1000000000000000 := absF_le.2 (by omega)
    rw [eqR, if_pos h4]
    refine ⟨ih.1, fun y hy => ?_⟩
    rcases List.mem_cons.1 hy with rfl | hy
    · exact h3
    · exact ih.2 y hy

end Go.Proofs.Ytepcciodhppbnaa


namespace Go.Proofs.Ytepcciodhppbnaa
open Go.RowKit

theorem upF_le {n k B : Int} (hk : 0 < k) : upF n k ≤ B ↔ n ≤ B * k := by
  unfold upF
  have h := Int.le_ediv_iff_mul_le (a := -B) (b := -n) hk
  rw [Int.neg_mul] at h
  constructor
  · intro h1; have := h.1 (by omega); omega
  · intro h1; have := h.2 (by omega); omega
theorem isB_iff {f s d a b : Int} (hd : 0 < d) (hst : 0 < d - strF f s) : isB f s d a b = decide (upF (a * d) (d - strF f s) ≤ b) := by
  unfold isB
  apply decide_eq_decide.2
  have h1 := upF_le (n := strF f s * b) (k := d) (B := b - a) hd
  have h2 := upF_le (n := a * d) (k := d - strF f s) (B := b) hst
  rw [Int.sub_mul] at h1
  rw [Int.mul_sub] at h2
  rw [Int.mul_comm b (strF f s)] at h2
  constructor
  · intro h; exact h2.2 (by have := h1.1 (by omega); omega)
  · intro h; have := h1.2 (by have := h2.1 h; omega); omega
theorem stab_facts {f s d m : Int} (hd : 1 ≤ d ∧ d ≤ 1000) (hm : 0 ≤ m ∧ m ≤ 32767) (hst : 0 < d - strF f s) :
    (0 ≤ upF (m * d) (d - strF f s) ∧ upF (m * d) (d - strF f s) ≤ 32767000) ∧ strF f s * upF (m * d) (d - strF f s) ≤ (upF (m * d) (d - strF f s) - m) * d := by
  have hmd := mul_bd (a := m) (b := d) (A := 32767) (B := 1000) (by omega) (by omega) (by omega) (by omega)
  have hmd0 : 0 ≤ m * d := Int.mul_nonneg (by omega) (by omega)
  obtain ⟨B, hB⟩ : ∃ B, upF (m * d) (d - strF f s) = B := ⟨_, rfl⟩
  have h1 := upF_le (n := m * d) (k := d - strF f s) (B := B) hst
  have h2 := upF_le (n := m * d) (k := d - strF f s) (B := 32767000) hst
  have h3 := upF_le (n := m * d) (k := d - strF f s) (B := -1) hst
  rw [hB] at h1 h2 h3 ⊢
  have e1 : 32767000 * 1 ≤ 32767000 * (d - strF f s) := Int.mul_le_mul_of_nonneg_left (by omega) (by omega)
  have h4 := h1.1 (Int.le_refl _)
  rw [Int.mul_sub, Int.mul_comm B (strF f s)] at h4
  rw [Int.sub_mul]
  refine ⟨⟨?_, h2.2 (by omega)⟩, by omega⟩
  rcases (by omega : B < 0 ∨ 0 ≤ B) with h | h
  · have := h3.1 (by omega); omega
  · exact h

end Go.Proofs.Ytepcciodhppbnaa


namespace Go.Proofs.Ytepcciodhppbnaa
open Go.RowKit

/-! ### the equalizer's memory -/
/-- An equalizer whose numbers are small. -/
def EqOk (f s d : Int) : Prop := (-1000 ≤ f ∧ f ≤ 1000) ∧ (-1000 ≤ s ∧ s ≤ 1000) ∧ 1 ≤ d ∧ d ≤ 1000
theorem big_mul {f a : Int} (hf : -1000 ≤ f ∧ f ≤ 1000) (ha : -1000000000000000 ≤ a ∧ a ≤ 1000000000000000) : -1000000000000000000 ≤ f * a ∧ f * a ≤ 1000000000000000000 := by
  have := mul_bd (a := f) (b := a) (A := 1000) (B := 1000000000000000) hf ha (by omega) (by omega)
  omega
theorem echo_lim {f s d a b : Int} (h : EqOk f s d) (ha : -1000000000000000 ≤ a ∧ a ≤ 1000000000000000) (hb : -1000000000000000 ≤ b ∧ b ≤ 1000000000000000) : -2000000000000000000 ≤ echoF f s d a b ∧ echoF f s d a b ≤ 2000000000000000000 := by
  have h1 := big_mul h.1 ha
  have h2 := big_mul h.2.1 hb
  unfold echoF
  have h3 := h.2.2
  constructor
  · rw [Int.le_ediv_iff_mul_le (by omega)]
    have : (-2000000000000000000) * d ≤ (-2000000000000000000) * 1 := Int.mul_le_mul_of_nonpos_left (by omega) (by omega)
    omega
  · have : (f * a + s * b) / d < 2000000000000000000 + 1 := by
      rw [Int.ediv_lt_iff_lt_mul (by omega)]
      have : (2000000000000000001 : Int) * 1 ≤ 2000000000000000001 * d := Int.mul_le_mul_of_nonneg_left (by omega) (by omega)
      omega
    omega
theorem bk5 {W : World} {g : Nat} {t : TypeId} {a b c d e : Value} (h : Bk W g t #[a, b, c, d, e]) : W.cell? ⟨g, 0, none⟩ = some a ∧ W.cell? ⟨g, 1, none⟩ = some b ∧ W.cell? ⟨g, 2, none⟩ = some c ∧ W.cell? ⟨g, 3, none⟩ = some d ∧ W.cell? ⟨g, 4, none⟩ = some e :=
  ⟨by rw [h.cell]; rfl, by rw [h.cell]; rfl, by rw [h.cell]; rfl, by rw [h.cell]; rfl, by rw [h.cell]; rfl⟩
set_option maxRecDepth 100000 in
set_option maxHeartbeats 1000000 in
theorem echo_any (g : Nat) (f s d a b : Int) (w : World) (hk : Bk w g 121 #[.int .i64 f, .int .i64 s, .int .i64 d, .int .i64 a, .int .i64 b]) (h : EqOk f s d) (ha : -1000000000000000 ≤ a ∧ a ≤ 1000000000000000) (hb : -1000000000000000 ≤ b ∧ b ≤ 1000000000000000) :
    Calls Try.prog 75 #[.pointer (some ⟨g, 0, none⟩)] w fun e w' => e = .returned (.int .i64 (echoF f s d a b)) ∧ ∃ k, w' = w.drewN k := by
  obtain ⟨c0, c1, c2, c3, c4⟩ := bk5 hk
  have h1 := big_mul h.1 ha
  have h2 := big_mul h.2.1 hb
  have h3 := h.2.2
  have HE : Hid (echoF f s d a b = (f * a + s * b) / d) := rfl
  have w1 : IntKind.i64.wrap (f * a) = f * a := IntWalk.i64_in _ (by omega)
  have w2 : IntKind.i64.wrap (s * b) = s * b := IntWalk.i64_in _ (by omega)
  have w3 : IntKind.i64.wrap (f * a + s * b) = f * a + s * b := IntWalk.i64_in _ (by omega)
  have CD := Lib.hid (fun w => down_any (f * a + s * b) d (by omega) (by omega) w)
  clear hk h ha hb h1 h2 h3
  go_enter Try.func75, Try.ntmps75
  go_wp2
  go_quiet ((go_at_call 82; exact quietP (CD.out _)))
  go_wp2
  go_ret
  exact ⟨by rw [HE.out]; rfl, _, rfl⟩
set_option maxRecDepth 100000 in
set_option maxHeartbeats 1000000 in
theorem remember_any (g : Nat) (f s d a b y : Int) (w : World) (hk : Bk w g 121 #[.int .i64 f, .int .i64 s, .int .i64 d, .int .i64 a, .int .i64 b]) :
    Calls Try.prog 77 #[.pointer (some ⟨g, 0, none⟩), .int .i64 y] w fun e w' => e = .returned (.tuple #[]) ∧ w' = (w.setCell ⟨g, 4, none⟩ (.int .i64 a)).setCell ⟨g, 3, none⟩ (.int .i64 y) := by
  obtain ⟨c0, c1, c2, c3, c4⟩ := bk5 hk
  have f3 := hk.frozen 3
  have f4 := hk.frozen 4
  have c3' : (w.setCell ⟨g, 4, none⟩ (.int .i64 a)).cell? ⟨g, 3, none⟩ = some (.int .i64 a) := by rw [(hk.set_ 4 (.int .i64 a)).cell]; rfl
  have f3' : (w.setCell ⟨g, 4, none⟩ (.int .i64 a)).frozen? ⟨g, 3, none⟩ = false := (hk.set_ 4 (.int .i64 a)).frozen 3
  clear hk
  go_enter Try.func77, Try.ntmps77
  go_wp2
  exact bodyPost_end (v := .tuple #[]) (by simp [results, Try.results77, go_sem]) rfl ⟨rfl, rfl⟩
end Go.Proofs.Ytepcciodhppbnaa

