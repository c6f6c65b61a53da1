import Derived.Test.YtepjnkmmielamaaDoorW6
import Derived.Test.YtepjnkmmielamaaDoorGA
namespace Go.Proofs.YtepjnkmmielamaaDoor
open Go.RowKit

theorem expected_core (arr : Array Value) (xs : List Int) (i p : Nat) (f0 f1 : Int) (M : Int) (w : World) (h : Is8 arr xs) (hb : Bnd xs M) (hM : 0 ≤ M) (hM2 : M ≤ 1000000000000) (hi : i < 8) (hp : p < 3)
    (h1 : 1 < w.heap.size) (g0 : -2 ≤ f0 ∧ f0 ≤ 2) (g1 : -2 ≤ f1 ∧ f1 ≤ 2) (hc0 : w.cell? ⟨1, p * 2, none⟩ = some (.int .i64 f0)) (hc1 : w.cell? ⟨1, p * 2 + 1, none⟩ = some (.int .i64 f1)) :
    Calls Tryd.prog 151 #[.agg arr, .int .i64 i, .int .i64 p] w fun e w' => e = .returned (.int .i64 (expd2 xs i f0 f1)) ∧ Below w.heap.size w w' := by
  have H := Lib.hid h; clear h
  have HB := Lib.hid hb; clear hb
  have c0 : (w.alloc (.cells arr 35)).cell? ⟨1, p * 2, none⟩ = some (.int .i64 f0) := by rw [World.cell?_alloc_lt w _ _ h1]; exact hc0
  have c1 : (w.alloc (.cells arr 35)).cell? ⟨1, p * 2 + 1, none⟩ = some (.int .i64 f1) := by rw [World.cell?_alloc_lt w _ _ h1]; exact hc1
  clear hc0 hc1
  have i0 : ∀ w, (Instr.index 211 (.agg #[.int .i64 f0, .int .i64 f1]) (.int .i64 0)).run Tryd.prog w = .ok (.int .i64 f0) w := fun _ => by kernel_rfl
  have i1 : ∀ w, (Instr.index 211 (.agg #[.int .i64 f0, .int .i64 f1]) (.int .i64 1)).run Tryd.prog w = .ok (.int .i64 f1) w := fun _ => by kernel_rfl
  go_enter Tryd.func151, Tryd.ntmps151
  go_wp2
  clear c0 c1
  go_loop [7, 14] (fun s k => (s = .int .i64 0 ∧ k = .int .i64 0) ∨ (s = .int .i64 (expT xs i 0 f0) ∧ k = .int .i64 1) ∨ (s = .int .i64 (expd2 xs i f0 f1) ∧ k = .int .i64 2)) (fun _ k => 2 - (intOf k).toNat)
  case atStart => exact .inl ⟨rfl, rfl⟩
  case round =>
    rcases hrel with ⟨rfl, rfl⟩ | ⟨rfl, rfl⟩ | ⟨rfl, rfl⟩
    · by_cases hge : 1 ≤ i
      · obtain ⟨q, rfl⟩ : ∃ q, i = q + 1 := ⟨i - 1, by omega⟩
        have hq := H.out.at_ q (by omega)
        have hxb := HB.out q
        obtain ⟨x, hx⟩ : ∃ x, xs.getD q 0 = x := ⟨_, rfl⟩
        have HX : Hid (expT xs (q + 1) 0 f0 = f0 * x) := by show expT xs (q + 1) 0 f0 = f0 * x; simp only [expT]; rw [if_pos (by omega), ← hx]; rfl
        rw [hx] at hq hxb
        clear hx
        have hcell : (w.alloc (.cells arr 35)).cell? ⟨w.heap.size, q, none⟩ = some (.int .i64 x) := by rw [cell_of_row _ _ q arr _ (0, 0) (heap_alloc_new w _)]; exact hq
        have hm := mul_bd f0 x M hxb hM g0.1 g0.2
        clear hq
        go_wp2
        go_round
        case rel => exact .inr (.inl ⟨by rw [HX.out], rfl⟩)
        case measure => simp [intOf]
      · obtain rfl : i = 0 := by omega
        have HX : Hid (expT xs 0 0 f0 = 0) := rfl
        go_wp2
        go_round
        case rel => exact .inr (.inl ⟨by rw [HX.out], rfl⟩)
        case measure => simp [intOf]
    · by_cases hge : 2 ≤ i
      · obtain ⟨q, rfl⟩ : ∃ q, i = q + 2 := ⟨i - 2, by omega⟩
        have hq := H.out.at_ q (by omega)
        have hxb := HB.out q
        obtain ⟨x, hx⟩ : ∃ x, xs.getD q 0 = x := ⟨_, rfl⟩
        have hs0 := expT_bd xs (q + 2) 0 f0 M HB.out hM g0.1 g0.2
        obtain ⟨s, hs⟩ : ∃ s, expT xs (q + 2) 0 f0 = s := ⟨_, rfl⟩
        have HX : Hid (expd2 xs (q + 2) f0 f1 = s + f1 * x) := by show expd2 xs (q + 2) f0 f1 = s + f1 * x; simp only [expd2, hs]; simp only [expT]; rw [if_pos (by omega), ← hx]; rfl
        rw [hs] at hs0 ⊢
        rw [hx] at hq hxb
        clear hx hs
        have hcell : (w.alloc (.cells arr 35)).cell? ⟨w.heap.size, q, none⟩ = some (.int .i64 x) := by rw [cell_of_row _ _ q arr _ (0, 0) (heap_alloc_new w _)]; exact hq
        have hm := mul_bd f1 x M hxb hM g1.1 g1.2
        clear hq
        go_wp2
        go_round
        case rel => exact .inr (.inr ⟨by rw [HX.out], rfl⟩)
        case measure => simp [intOf]
      · obtain ⟨s, hs⟩ : ∃ s, expT xs i 0 f0 = s := ⟨_, rfl⟩
        have HX : Hid (expd2 xs i f0 f1 = s) := by show expd2 xs i f0 f1 = s; simp only [expd2, hs]; simp only [expT]; rw [if_neg (by omega)]; omega
        rw [hs]
        clear hs
        go_wp2
        go_round
        case rel => exact .inr (.inr ⟨by rw [HX.out], rfl⟩)
        case measure => simp [intOf]
    · go_wp2
      go_ret
      exact ⟨rfl, (Below.refl _ _).alloc (Nat.le_refl _) _⟩

end Go.Proofs.YtepjnkmmielamaaDoor
