import Derived.Test.YtepcciodhppbnaaE41

namespace Go.Proofs.Ytepcciodhppbnaa
open Go.RowKit

/-! ### the equalizer's memory -/
/-- An equalizer whose numbers are small. -/
def EqOk (f s d : Int) : Prop := (-1000 ≤ f ∧ f ≤ 1000) ∧ (-1000 ≤ s ∧ s ≤ 1000) ∧ 1 ≤ d ∧ d ≤ 1000
theorem big_mul {f a : Int} (hf : -1000 ≤ f ∧ f ≤ 1000) (ha : -1000000000000000 ≤ a ∧ a ≤ 1000000000000000) : -1000000000000000000 ≤ f * a ∧ f * a ≤ 1000000000000000000 := by
  have := mul_bd (a := f) (b := a) (A := 1000) (B := 1000000000000000) hf ha (by omega) (by omega)
  omega
theorem echo_lim {f s d a b : Int} (h : EqOk f s d) (ha : -1000000000000000 ≤ a ∧ a ≤ 1000000000000000) (hb : -1000000000000000 ≤ b ∧ b ≤ 1000000000000000) : -2000000000000000000 ≤ echoF f s d a b ∧ echoF f s d a b ≤ 2000000000000000000 := by
  have h1 := big_mul h.1 ha
  have h2 := big_mul h.2.1 hb
  unfold echoF
  have h3 := h.2.2
  constructor
  · rw [Int.le_ediv_iff_mul_le (by omega)]
    have : (-2000000000000000000) * d ≤ (-2000000000000000000) * 1 := Int.mul_le_mul_of_nonpos_left (by omega) (by omega)
    omega
  · have : (f * a + s * b) / d < 2000000000000000000 + 1 := by
      rw [Int.ediv_lt_iff_lt_mul (by omega)]
      have : (2000000000000000001 : Int) * 1 ≤ 2000000000000000001 * d := Int.mul_le_mul_of_nonneg_left (by omega) (by omega)
      omega
    omega
theorem bk5 {W : World} {g : Nat} {t : TypeId} {a b c d e : Value} (h : Bk W g t #[a, b, c, d, e]) : W.cell? ⟨g, 0, none⟩ = some a ∧ W.cell? ⟨g, 1, none⟩ = some b ∧ W.cell? ⟨g, 2, none⟩ = some c ∧ W.cell? ⟨g, 3, none⟩ = some d ∧ W.cell? ⟨g, 4, none⟩ = some e :=
  ⟨by rw [h.cell]; rfl, by rw [h.cell]; rfl, by rw [h.cell]; rfl, by rw [h.cell]; rfl, by rw [h.cell]; rfl⟩
set_option maxRecDepth 100000 in
set_option maxHeartbeats 1000000 in
theorem echo_any (g : Nat) (f s d a b : Int) (w : World) (hk : Bk w g 121 #[.int .i64 f, .int .i64 s, .int .i64 d, .int .i64 a, .int .i64 b]) (h : EqOk f s d) (ha : -1000000000000000 ≤ a ∧ a ≤ 1000000000000000) (hb : -1000000000000000 ≤ b ∧ b ≤ 1000000000000000) :
    Calls Try.prog 75 #[.pointer (some ⟨g, 0, none⟩)] w fun e w' => e = .returned (.int .i64 (echoF f s d a b)) ∧ ∃ k, w' = w.drewN k := by
  obtain ⟨c0, c1, c2, c3, c4⟩ := bk5 hk
  have h1 := big_mul h.1 ha
  have h2 := big_mul h.2.1 hb
  have h3 := h.2.2
  have HE : Hid (echoF f s d a b = (f * a + s * b) / d) := rfl
  have w1 : IntKind.i64.wrap (f * a) = f * a := IntWalk.i64_in _ (by omega)
  have w2 : IntKind.i64.wrap (s * b) = s * b := IntWalk.i64_in _ (by omega)
  have w3 : IntKind.i64.wrap (f * a + s * b) = f * a + s * b := IntWalk.i64_in _ (by omega)
  have CD := Lib.hid (fun w => down_any (f * a + s * b) d (by omega) (by omega) w)
  clear hk h ha hb h1 h2 h3
  go_enter Try.func75, Try.ntmps75
  go_wp2
  go_quiet ((go_at_call 82; exact quietP (CD.out _)))
  go_wp2
  go_ret
  exact ⟨by rw [HE.out]; rfl, _, rfl⟩
set_option maxRecDepth 100000 in
set_option maxHeartbeats 1000000 in
theorem remember_any (g : Nat) (f s d a b y : Int) (w : World) (hk : Bk w g 121 #[.int .i64 f, .int .i64 s, .int .i64 d, .int .i64 a, .int .i64 b]) :
    Calls Try.prog 77 #[.pointer (some ⟨g, 0, none⟩), .int .i64 y] w fun e w' => e = .returned (.tuple #[]) ∧ w' = (w.setCell ⟨g, 4, none⟩ (.int .i64 a)).setCell ⟨g, 3, none⟩ (.int .i64 y) := by
  obtain ⟨c0, c1, c2, c3, c4⟩ := bk5 hk
  have f3 := hk.frozen 3
  have f4 := hk.frozen 4
  have c3' : (w.setCell ⟨g, 4, none⟩ (.int .i64 a)).cell? ⟨g, 3, none⟩ = some (.int .i64 a) := by rw [(hk.set_ 4 (.int .i64 a)).cell]; rfl
  have f3' : (w.setCell ⟨g, 4, none⟩ (.int .i64 a)).frozen? ⟨g, 3, none⟩ = false := (hk.set_ 4 (.int .i64 a)).frozen 3
  clear hk
  go_enter Try.func77, Try.ntmps77
  go_wp2
  exact bodyPost_end (v := .tuple #[]) (by simp [results, Try.results77, go_sem]) rfl ⟨rfl, rfl⟩
end Go.Proofs.Ytepcciodhppbnaa
