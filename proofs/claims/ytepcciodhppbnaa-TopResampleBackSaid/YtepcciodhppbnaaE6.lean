import Derived.Test.YtepcciodhppbnaaE5

namespace Go.Proofs.Ytepcciodhppbnaa
open Go.RowKit

/-! ### weights -/
theorem wrapM {a b A B : Int} (ha : -A ≤ a ∧ a ≤ A) (hb : -B ≤ b ∧ b ≤ B) (hA : 0 ≤ A) (hB : 0 ≤ B) (h : A * B ≤ 9000000000000000000) : IntKind.i64.wrap (a * b) = a * b := by
  have := mul_bd ha hb hA hB
  exact IntWalk.i64_in _ (by omega)
theorem mulB {a b : Int} (A B : Int) (ha : -A ≤ a ∧ a ≤ A) (hb : -B ≤ b ∧ b ≤ B) (hA : 0 ≤ A) (hB : 0 ≤ B) (C : Int) (h : A * B ≤ C) : -C ≤ a * b ∧ a * b ≤ C := by
  have := mul_bd ha hb hA hB
  omega
theorem wrapOf {a : Int} (A : Int) (h : -A ≤ a ∧ a ≤ A) (hA : A ≤ 9000000000000000000) : IntKind.i64.wrap a = a := IntWalk.i64_in _ (by omega)

def wts1 (f : Int) : List Int := [64 - f, f]
def wts3 (f : Int) : List Int := [-f * (f - 64) * (f - 128), 3 * (f + 64) * (f - 64) * (f - 128), -3 * (f + 64) * f * (f - 128), (f + 64) * f * (f - 64)]
theorem wts1_bd {f : Int} (h : 0 ≤ f ∧ f ≤ 63) : ∀ x ∈ wts1 f, -4000000 ≤ x ∧ x ≤ 4000000 := by
  intro x hx
  simp [wts1] at hx
  omega
/-- The products of a fraction and their bounds. -/
theorem prods {f : Int} (h : 0 ≤ f ∧ f ≤ 63) :
    (-4096 ≤ -f * (f - 64) ∧ -f * (f - 64) ≤ 4096) ∧ (-600000 ≤ -f * (f - 64) * (f - 128) ∧ -f * (f - 64) * (f - 128) ≤ 600000) ∧
    (-25000 ≤ 3 * (f + 64) * (f - 64) ∧ 3 * (f + 64) * (f - 64) ≤ 25000) ∧ (-3200000 ≤ 3 * (f + 64) * (f - 64) * (f - 128) ∧ 3 * (f + 64) * (f - 64) * (f - 128) ≤ 3200000) ∧
    (-25000 ≤ -3 * (f + 64) * f ∧ -3 * (f + 64) * f ≤ 25000) ∧ (-3200000 ≤ -3 * (f + 64) * f * (f - 128) ∧ -3 * (f + 64) * f * (f - 128) ≤ 3200000) ∧
    (-8192 ≤ (f + 64) * f ∧ (f + 64) * f ≤ 8192) ∧ (-600000 ≤ (f + 64) * f * (f - 64) ∧ (f + 64) * f * (f - 64) ≤ 600000) ∧
    (-76800000 ≤ (f + 64) * f * (f - 64) * (f - 128) ∧ (f + 64) * f * (f - 64) * (f - 128) ≤ 76800000) := by
  have a1 := mulB (a := -f) (b := f - 64) 64 64 (by omega) (by omega) (by omega) (by omega) 4096 (by omega)
  have a2 := mulB (a := -f * (f - 64)) (b := f - 128) 4096 128 a1 (by omega) (by omega) (by omega) 600000 (by omega)
  have b1 := mulB (a := 3 * (f + 64)) (b := f - 64) 384 64 (by omega) (by omega) (by omega) (by omega) 25000 (by omega)
  have b2 := mulB (a := 3 * (f + 64) * (f - 64)) (b := f - 128) 25000 128 b1 (by omega) (by omega) (by omega) 3200000 (by omega)
  have c1 := mulB (a := -3 * (f + 64)) (b := f) 384 64 (by omega) (by omega) (by omega) (by omega) 25000 (by omega)
  have c2 := mulB (a := -3 * (f + 64) * f) (b := f - 128) 25000 128 c1 (by omega) (by omega) (by omega) 3200000 (by omega)
  have d1 := mulB (a := f + 64) (b := f) 128 64 (by omega) (by omega) (by omega) (by omega) 8192 (by omega)
  have d2 := mulB (a := (f + 64) * f) (b := f - 64) 8192 64 d1 (by omega) (by omega) (by omega) 600000 (by omega)
  have d3 := mulB (a := (f + 64) * f * (f - 64)) (b := f - 128) 600000 128 d2 (by omega) (by omega) (by omega) 76800000 (by omega)
  exact ⟨a1, a2, b1, b2, c1, c2, d1, d2, d3⟩
theorem wts3_bd {f : Int} (h : 0 ≤ f ∧ f ≤ 63) : ∀ x ∈ wts3 f, -4000000 ≤ x ∧ x ≤ 4000000 := by
  obtain ⟨a1, a2, b1, b2, c1, c2, d1, d2, d3⟩ := prods h
  intro x hx
  simp only [wts3, List.mem_cons, List.not_mem_nil, or_false] at hx
  rcases hx with rfl | rfl | rfl | rfl <;> omega

theorem wts1_any (f : Int) (w : World) (h : 0 ≤ f ∧ f ≤ 63) :
    Calls Try.prog 120 #[.int .i64 f] w fun e w' => e = .returned (.slice (some ⟨w.heap.size, 0, none⟩) 2 2) ∧ w' = w.alloc (.cells (iArr (wts1 f)) 3) := by
  have h1 : IntKind.i64.wrap (64 - f) = 64 - f := IntWalk.i64_in _ (by omega)
  go_enter Try.func120, Try.ntmps120
  go_wp2
  go_ret
  exact ⟨rfl, rfl⟩
theorem rem1_any (f : Int) (w : World) (h : 0 ≤ f ∧ f ≤ 63) :
    Calls Try.prog 121 #[.int .i64 f] w fun e w' => e = .returned (.int .i64 (f * (f - 64))) ∧ w = w' := by
  have h1 : IntKind.i64.wrap (f - 64) = f - 64 := IntWalk.i64_in _ (by omega)
  have h2 : IntKind.i64.wrap (f * (f - 64)) = f * (f - 64) := wrapM (A := 64) (B := 64) (by omega) (by omega) (by omega) (by omega) (by omega)
  go_enter Try.func121, Try.ntmps121
  go_wp2
  go_ret
  exact ⟨rfl, rfl⟩
set_option maxHeartbeats 1000000 in
theorem wts3_any (f : Int) (w : World) (h : 0 ≤ f ∧ f ≤ 63) :
    Calls Try.prog 122 #[.int .i64 f] w fun e w' => e = .returned (.slice (some ⟨w.heap.size, 0, none⟩) 4 4) ∧ w' = w.alloc (.cells (iArr (wts3 f)) 3) := by
  obtain ⟨a1, a2, b1, b2, c1, c2, d1, d2, d3⟩ := prods h
  have h1 : IntKind.i64.wrap (-f) = -f := IntWalk.i64_in _ (by omega)
  have h2 : IntKind.i64.wrap (f - 64) = f - 64 := IntWalk.i64_in _ (by omega)
  have h3 : IntKind.i64.wrap (f - 128) = f - 128 := IntWalk.i64_in _ (by omega)
  have h4 : IntKind.i64.wrap (f + 64) = f + 64 := IntWalk.i64_in _ (by omega)
  have h5 : IntKind.i64.wrap (3 * (f + 64)) = 3 * (f + 64) := IntWalk.i64_in _ (by omega)
  have h6 : IntKind.i64.wrap (-3 * (f + 64)) = -3 * (f + 64) := IntWalk.i64_in _ (by omega)
  have k1 := wrapOf _ a1 (by omega)
  have k2 := wrapOf _ a2 (by omega)
  have k3 := wrapOf _ b1 (by omega)
  have k4 := wrapOf _ b2 (by omega)
  have k5 := wrapOf _ c1 (by omega)
  have k6 := wrapOf _ c2 (by omega)
  have k7 := wrapOf _ d1 (by omega)
  have k8 := wrapOf _ d2 (by omega)
  clear a1 a2 b1 b2 c1 c2 d1 d2 d3
  go_enter Try.func122, Try.ntmps122
  go_wp2
  go_ret
  exact ⟨rfl, rfl⟩
theorem rem3_any (f : Int) (w : World) (h : 0 ≤ f ∧ f ≤ 63) :
    Calls Try.prog 123 #[.int .i64 f] w fun e w' => e = .returned (.int .i64 ((f + 64) * f * (f - 64) * (f - 128))) ∧ w = w' := by
  obtain ⟨a1, a2, b1, b2, c1, c2, d1, d2, d3⟩ := prods h
  have h2 : IntKind.i64.wrap (f - 64) = f - 64 := IntWalk.i64_in _ (by omega)
  have h3 : IntKind.i64.wrap (f - 128) = f - 128 := IntWalk.i64_in _ (by omega)
  have h4 : IntKind.i64.wrap (f + 64) = f + 64 := IntWalk.i64_in _ (by omega)
  have k7 := wrapOf _ d1 (by omega)
  have k8 := wrapOf _ d2 (by omega)
  have k9 := wrapOf _ d3 (by omega)
  clear a1 a2 b1 b2 c1 c2 d1 d2 d3
  go_enter Try.func123, Try.ntmps123
  go_wp2
  go_ret
  exact ⟨rfl, rfl⟩

/-! ### values -/
/-- The index that is there instead of another one. -/
def clmp (n : Nat) (i : Int) : Nat := (max 0 (min i ((n : Int) - 1))).toNat
theorem clmp_lt {n : Nat} (hn : 0 < n) (i : Int) : clmp n i < n := by unfold clmp; omega
def vsum (ws xs : List Int) (first : Int) : Nat → Int
  | 0 => 0
  | k + 1 => vsum ws xs first k + ws.getD k 0 * xs.getD (clmp xs.length (first + k)) 0
theorem getD_bd {xs : List Int} {A : Int} (hA : 0 ≤ A) (h : ∀ x ∈ xs, -A ≤ x ∧ x ≤ A) (k : Nat) : -A ≤ xs.getD k 0 ∧ xs.getD k 0 ≤ A := by
  rw [List.getD_eq_getElem?_getD]
  by_cases hk : k < xs.length
  · rw [List.getElem?_eq_getElem hk]; exact h _ (List.getElem_mem hk)
  · rw [List.getElem?_eq_none (by omega)]; simp; omega
theorem vsum_bd {ws xs : List Int} {first : Int} (hw : ∀ x ∈ ws, -4000000 ≤ x ∧ x ≤ 4000000) (hx : ∀ x ∈ xs, -32767 ≤ x ∧ x ≤ 32767) : ∀ k : Nat, -(131068000000 * (k : Int)) ≤ vsum ws xs first k ∧ vsum ws xs first k ≤ 131068000000 * (k : Int)
  | 0 => by simp [vsum]
  | k + 1 => by
    have ih := vsum_bd (first := first) hw hx k
    have h := mulB 4000000 32767 (getD_bd (by omega) hw k) (getD_bd (by omega) hx (clmp xs.length (first + k))) (by omega) (by omega) 131068000000 (by omega)
    unfold vsum
    omega

end Go.Proofs.Ytepcciodhppbnaa
