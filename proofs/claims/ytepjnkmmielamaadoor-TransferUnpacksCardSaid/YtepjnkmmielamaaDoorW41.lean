import Derived.Test.YtepjnkmmielamaaDoorW40
namespace Go.Proofs.YtepjnkmmielamaaDoor
open Go.RowKit

theorem cell8 (arr : Array Value) (xs : List Int) (w : World) (t : TypeId) (h : Is8 arr xs) (q : Nat) (hq : q < 8) (a : Int) (ha : xs.getD q 0 = a) :
    (w.alloc (.cells arr t)).cell? ⟨w.heap.size, q, none⟩ = some (.int .i64 a) := by
  rw [cell_of_row _ _ q arr _ (0, 0) (heap_alloc_new w _), h.at_ q hq, ha]

theorem refExp0 (arr : Array Value) (xs : List Int) (i : Nat) (w : World) (h : Is8 arr xs) (hi : i < 8) :
    Calls Tryd.prog 107 #[.agg arr, .int .i64 i, .int .i64 0] w fun e w' => e = .returned (.int .i64 0) ∧ Below w.heap.size w w' := by
  match i, hi with
  | 0, _ =>
    go_enter Tryd.func107, Tryd.ntmps107
    go_wp2
    go_ret
    exact ⟨rfl, (Below.refl _ _).alloc (Nat.le_refl _) _⟩
  | 1, _ =>
    have c0 := cell8 arr xs w 35 h 0 (by omega) _ rfl
    go_enter Tryd.func107, Tryd.ntmps107
    go_wp2
    go_ret
    exact ⟨rfl, (Below.refl _ _).alloc (Nat.le_refl _) _⟩
  | q + 2, hi =>
    have c0 := cell8 arr xs w 35 h q (by omega) _ rfl
    have c1 := cell8 arr xs w 35 h (q + 1) (by omega) _ rfl
    go_enter Tryd.func107, Tryd.ntmps107
    go_wp2
    go_ret
    exact ⟨rfl, (Below.refl _ _).alloc (Nat.le_refl _) _⟩

theorem refExp1 (arr : Array Value) (xs : List Int) (i : Nat) (w : World) (h : Is8 arr xs) (hi : i < 8) :
    Calls Tryd.prog 107 #[.agg arr, .int .i64 i, .int .i64 1] w fun e w' => e = .returned (.int .i64 (expd xs i 1)) ∧ Below w.heap.size w w' := by
  match i, hi with
  | 0, _ =>
    have HE := Lib.hid (expd_one_first xs)
    go_enter Tryd.func107, Tryd.ntmps107
    go_wp2
    go_ret
    exact ⟨by rw [HE.out]; rfl, (Below.refl _ _).alloc (Nat.le_refl _) _⟩
  | 1, _ =>
    have HE := Lib.hid (expd_one xs 0)
    obtain ⟨a, ha⟩ : ∃ a, xs.getD 0 0 = a := ⟨_, rfl⟩
    have c0 := cell8 arr xs w 35 h 0 (by omega) _ ha
    have HA := Lib.hid ha
    clear ha
    go_enter Tryd.func107, Tryd.ntmps107
    go_wp2
    go_ret
    exact ⟨by rw [HE.out, HA.out]; rfl, (Below.refl _ _).alloc (Nat.le_refl _) _⟩
  | q + 2, hi =>
    have HE := Lib.hid (expd_one xs (q + 1))
    obtain ⟨a, ha⟩ : ∃ a, xs.getD (q + 1) 0 = a := ⟨_, rfl⟩
    have c0 := cell8 arr xs w 35 h q (by omega) _ rfl
    have c1 := cell8 arr xs w 35 h (q + 1) (by omega) _ ha
    have HA := Lib.hid ha
    clear ha
    go_enter Tryd.func107, Tryd.ntmps107
    go_wp2
    go_ret
    exact ⟨by rw [HE.out, HA.out]; rfl, (Below.refl _ _).alloc (Nat.le_refl _) _⟩

theorem refExp2 (arr : Array Value) (xs : List Int) (i : Nat) (w : World) (h : Is8 arr xs) (hb : Bnd xs 32767) (hi : i < 8) :
    Calls Tryd.prog 107 #[.agg arr, .int .i64 i, .int .i64 2] w fun e w' => e = .returned (.int .i64 (expd xs i 2)) ∧ Below w.heap.size w w' := by
  match i, hi with
  | 0, _ =>
    have HE := Lib.hid (expd_two_first xs)
    go_enter Tryd.func107, Tryd.ntmps107
    go_wp2
    go_ret
    exact ⟨by rw [HE.out]; rfl, (Below.refl _ _).alloc (Nat.le_refl _) _⟩
  | 1, _ =>
    have HE := Lib.hid (expd_two_second xs)
    have b0 := hb 0
    obtain ⟨a, ha⟩ : ∃ a, xs.getD 0 0 = a := ⟨_, rfl⟩
    have c0 := cell8 arr xs w 35 h 0 (by omega) _ ha
    rw [ha] at b0
    have HA := Lib.hid ha
    clear ha
    go_enter Tryd.func107, Tryd.ntmps107
    go_wp2
    go_ret
    exact ⟨by rw [HE.out, HA.out]; rfl, (Below.refl _ _).alloc (Nat.le_refl _) _⟩
  | q + 2, hi =>
    have HE := Lib.hid (expd_two xs q)
    have b0 := hb q
    have b1 := hb (q + 1)
    obtain ⟨b, hbb⟩ : ∃ b, xs.getD q 0 = b := ⟨_, rfl⟩
    obtain ⟨a, ha⟩ : ∃ a, xs.getD (q + 1) 0 = a := ⟨_, rfl⟩
    have c0 := cell8 arr xs w 35 h q (by omega) _ hbb
    have c1 := cell8 arr xs w 35 h (q + 1) (by omega) _ ha
    rw [ha] at b1
    rw [hbb] at b0
    have HA := Lib.hid ha
    have HB := Lib.hid hbb
    clear ha hbb
    go_enter Tryd.func107, Tryd.ntmps107
    go_wp2
    go_ret
    exact ⟨by rw [HE.out, HA.out, HB.out]; rfl, (Below.refl _ _).alloc (Nat.le_refl _) _⟩

theorem refExpected_any (arr : Array Value) (xs : List Int) (i p : Nat) (w : World) (h : Is8 arr xs) (hb : Bnd xs 32767) (hi : i < 8) (hp : p < 3) :
    Calls Tryd.prog 107 #[.agg arr, .int .i64 i, .int .i64 p] w fun e w' => e = .returned (.int .i64 (expd xs i p)) ∧ Below w.heap.size w w' := by
  match p, hp with
  | 0, _ => rw [expd_zero]; exact refExp0 arr xs i w h hi
  | 1, _ => exact refExp1 arr xs i w h hi
  | 2, _ => exact refExp2 arr xs i w h hb hi

end Go.Proofs.YtepjnkmmielamaaDoor
