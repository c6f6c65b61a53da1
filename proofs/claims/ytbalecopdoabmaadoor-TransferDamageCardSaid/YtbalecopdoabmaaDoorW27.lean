import Derived.Test.YtbalecopdoabmaaDoorW23
namespace Go.Proofs.YtbalecopdoabmaaDoor
open Go.RowKit

theorem sumT_lin (c h x0 x1 x2 x3 x4 x5 x6 x7 : Int) : sumT c h [x0, x1, x2, x3, x4, x5, x6, x7] = (9 * c + 10 * h + (x0 + 32768) + 2 * (x1 + 32768) + 3 * (x2 + 32768) + 4 * (x3 + 32768) + 5 * (x4 + 32768) + 6 * (x5 + 32768) + 7 * (x6 + 32768) + 8 * (x7 + 32768)) % 65537 := by
  simp [sumT, sumTo]

theorem blockE_ne (c h : Int) (xs : List Int) (s : Int) (hs : s ≠ sumT c h xs) : (blockE c h xs s != 0) = true := by
  unfold blockE
  by_cases g : contE c h xs = 0
  · rw [if_pos g, if_neg hs]; rfl
  · rw [if_neg g]; rfl

theorem unit_any (f g m d q : Int) (hfg : g * f = 1 + 65537 * m) (h : f * d = 65537 * q) : d = 65537 * (g * q - m * d) := by
  have h2 : g * (f * d) = g * (65537 * q) := by rw [h]
  have h3 : g * (f * d) = d + 65537 * (m * d) := by rw [← Int.mul_assoc, hfg, Int.add_mul, Int.one_mul, Int.mul_assoc]
  have h4 : g * (65537 * q) = 65537 * (g * q) := by rw [← Int.mul_assoc, Int.mul_comm g 65537, Int.mul_assoc]
  rw [h3, h4] at h2
  rw [Int.mul_sub]
  generalize 65537 * (m * d) = Y at *
  generalize 65537 * (g * q) = Z at *
  omega
theorem mod_zero (d t : Int) (h : d = 65537 * t) : d % 65537 = 0 := by rw [h]; exact Int.mul_emod_right ..
theorem mod_ne (A d f : Int) (hd : d % 65537 ≠ 0) (hf : f = 1 ∨ f = 2 ∨ f = 3 ∨ f = 4 ∨ f = 5 ∨ f = 6 ∨ f = 7 ∨ f = 8 ∨ f = 9 ∨ f = 10) : A % 65537 ≠ (A + f * d) % 65537 := by
  intro e
  have e3 := Int.emod_eq_emod_iff_emod_sub_eq_zero.1 e.symm
  rw [Int.add_comm A (f * d), Int.add_sub_cancel] at e3
  obtain ⟨q, hq⟩ := Int.dvd_of_emod_eq_zero e3
  clear e e3
  rcases hf with rfl | rfl | rfl | rfl | rfl | rfl | rfl | rfl | rfl | rfl
  · exact hd (mod_zero d _ (unit_any 1 1 0 d q (by decide) hq))
  · exact hd (mod_zero d _ (unit_any 2 32769 1 d q (by decide) hq))
  · exact hd (mod_zero d _ (unit_any 3 21846 1 d q (by decide) hq))
  · exact hd (mod_zero d _ (unit_any 4 49153 3 d q (by decide) hq))
  · exact hd (mod_zero d _ (unit_any 5 26215 2 d q (by decide) hq))
  · exact hd (mod_zero d _ (unit_any 6 10923 1 d q (by decide) hq))
  · exact hd (mod_zero d _ (unit_any 7 18725 2 d q (by decide) hq))
  · exact hd (mod_zero d _ (unit_any 8 57345 7 d q (by decide) hq))
  · exact hd (mod_zero d _ (unit_any 9 7282 1 d q (by decide) hq))
  · exact hd (mod_zero d _ (unit_any 10 45876 7 d q (by decide) hq))

theorem lin_0 (c h x0 x1 x2 x3 x4 x5 x6 x7 d : Int) : 9 * c + 10 * h + ((x0 + d) + 32768) + 2 * (x1 + 32768) + 3 * (x2 + 32768) + 4 * (x3 + 32768) + 5 * (x4 + 32768) + 6 * (x5 + 32768) + 7 * (x6 + 32768) + 8 * (x7 + 32768) = 9 * c + 10 * h + (x0 + 32768) + 2 * (x1 + 32768) + 3 * (x2 + 32768) + 4 * (x3 + 32768) + 5 * (x4 + 32768) + 6 * (x5 + 32768) + 7 * (x6 + 32768) + 8 * (x7 + 32768) + 1 * d := by
  omega
theorem lin_1 (c h x0 x1 x2 x3 x4 x5 x6 x7 d : Int) : 9 * c + 10 * h + (x0 + 32768) + 2 * ((x1 + d) + 32768) + 3 * (x2 + 32768) + 4 * (x3 + 32768) + 5 * (x4 + 32768) + 6 * (x5 + 32768) + 7 * (x6 + 32768) + 8 * (x7 + 32768) = 9 * c + 10 * h + (x0 + 32768) + 2 * (x1 + 32768) + 3 * (x2 + 32768) + 4 * (x3 + 32768) + 5 * (x4 + 32768) + 6 * (x5 + 32768) + 7 * (x6 + 32768) + 8 * (x7 + 32768) + 2 * d := by
  omega
theorem lin_2 (c h x0 x1 x2 x3 x4 x5 x6 x7 d : Int) : 9 * c + 10 * h + (x0 + 32768) + 2 * (x1 + 32768) + 3 * ((x2 + d) + 32768) + 4 * (x3 + 32768) + 5 * (x4 + 32768) + 6 * (x5 + 32768) + 7 * (x6 + 32768) + 8 * (x7 + 32768) = 9 * c + 10 * h + (x0 + 32768) + 2 * (x1 + 32768) + 3 * (x2 + 32768) + 4 * (x3 + 32768) + 5 * (x4 + 32768) + 6 * (x5 + 32768) + 7 * (x6 + 32768) + 8 * (x7 + 32768) + 3 * d := by
  omega
theorem lin_3 (c h x0 x1 x2 x3 x4 x5 x6 x7 d : Int) : 9 * c + 10 * h + (x0 + 32768) + 2 * (x1 + 32768) + 3 * (x2 + 32768) + 4 * ((x3 + d) + 32768) + 5 * (x4 + 32768) + 6 * (x5 + 32768) + 7 * (x6 + 32768) + 8 * (x7 + 32768) = 9 * c + 10 * h + (x0 + 32768) + 2 * (x1 + 32768) + 3 * (x2 + 32768) + 4 * (x3 + 32768) + 5 * (x4 + 32768) + 6 * (x5 + 32768) + 7 * (x6 + 32768) + 8 * (x7 + 32768) + 4 * d := by
  omega
theorem lin_4 (c h x0 x1 x2 x3 x4 x5 x6 x7 d : Int) : 9 * c + 10 * h + (x0 + 32768) + 2 * (x1 + 32768) + 3 * (x2 + 32768) + 4 * (x3 + 32768) + 5 * ((x4 + d) + 32768) + 6 * (x5 + 32768) + 7 * (x6 + 32768) + 8 * (x7 + 32768) = 9 * c + 10 * h + (x0 + 32768) + 2 * (x1 + 32768) + 3 * (x2 + 32768) + 4 * (x3 + 32768) + 5 * (x4 + 32768) + 6 * (x5 + 32768) + 7 * (x6 + 32768) + 8 * (x7 + 32768) + 5 * d := by
  omega
theorem lin_5 (c h x0 x1 x2 x3 x4 x5 x6 x7 d : Int) : 9 * c + 10 * h + (x0 + 32768) + 2 * (x1 + 32768) + 3 * (x2 + 32768) + 4 * (x3 + 32768) + 5 * (x4 + 32768) + 6 * ((x5 + d) + 32768) + 7 * (x6 + 32768) + 8 * (x7 + 32768) = 9 * c + 10 * h + (x0 + 32768) + 2 * (x1 + 32768) + 3 * (x2 + 32768) + 4 * (x3 + 32768) + 5 * (x4 + 32768) + 6 * (x5 + 32768) + 7 * (x6 + 32768) + 8 * (x7 + 32768) + 6 * d := by
  omega
theorem lin_6 (c h x0 x1 x2 x3 x4 x5 x6 x7 d : Int) : 9 * c + 10 * h + (x0 + 32768) + 2 * (x1 + 32768) + 3 * (x2 + 32768) + 4 * (x3 + 32768) + 5 * (x4 + 32768) + 6 * (x5 + 32768) + 7 * ((x6 + d) + 32768) + 8 * (x7 + 32768) = 9 * c + 10 * h + (x0 + 32768) + 2 * (x1 + 32768) + 3 * (x2 + 32768) + 4 * (x3 + 32768) + 5 * (x4 + 32768) + 6 * (x5 + 32768) + 7 * (x6 + 32768) + 8 * (x7 + 32768) + 7 * d := by
  omega
theorem lin_7 (c h x0 x1 x2 x3 x4 x5 x6 x7 d : Int) : 9 * c + 10 * h + (x0 + 32768) + 2 * (x1 + 32768) + 3 * (x2 + 32768) + 4 * (x3 + 32768) + 5 * (x4 + 32768) + 6 * (x5 + 32768) + 7 * (x6 + 32768) + 8 * ((x7 + d) + 32768) = 9 * c + 10 * h + (x0 + 32768) + 2 * (x1 + 32768) + 3 * (x2 + 32768) + 4 * (x3 + 32768) + 5 * (x4 + 32768) + 6 * (x5 + 32768) + 7 * (x6 + 32768) + 8 * (x7 + 32768) + 8 * d := by
  omega
theorem lin_8 (c h x0 x1 x2 x3 x4 x5 x6 x7 d : Int) : 9 * (c + d) + 10 * h + (x0 + 32768) + 2 * (x1 + 32768) + 3 * (x2 + 32768) + 4 * (x3 + 32768) + 5 * (x4 + 32768) + 6 * (x5 + 32768) + 7 * (x6 + 32768) + 8 * (x7 + 32768) = 9 * c + 10 * h + (x0 + 32768) + 2 * (x1 + 32768) + 3 * (x2 + 32768) + 4 * (x3 + 32768) + 5 * (x4 + 32768) + 6 * (x5 + 32768) + 7 * (x6 + 32768) + 8 * (x7 + 32768) + 9 * d := by
  omega
theorem lin_9 (c h x0 x1 x2 x3 x4 x5 x6 x7 d : Int) : 9 * c + 10 * (h + d) + (x0 + 32768) + 2 * (x1 + 32768) + 3 * (x2 + 32768) + 4 * (x3 + 32768) + 5 * (x4 + 32768) + 6 * (x5 + 32768) + 7 * (x6 + 32768) + 8 * (x7 + 32768) = 9 * c + 10 * h + (x0 + 32768) + 2 * (x1 + 32768) + 3 * (x2 + 32768) + 4 * (x3 + 32768) + 5 * (x4 + 32768) + 6 * (x5 + 32768) + 7 * (x6 + 32768) + 8 * (x7 + 32768) + 10 * d := by
  omega
theorem damage_0 (c h x0 x1 x2 x3 x4 x5 x6 x7 d : Int) (hd : d % 65537 ≠ 0) : (blockE c h [(x0 + d), x1, x2, x3, x4, x5, x6, x7] (sumT c h [x0, x1, x2, x3, x4, x5, x6, x7]) != 0) = true := by
  apply blockE_ne
  rw [sumT_lin, sumT_lin]
  have e := lin_0 c h x0 x1 x2 x3 x4 x5 x6 x7 d
  rw [e]
  exact mod_ne _ d 1 hd (by omega)
theorem damage_1 (c h x0 x1 x2 x3 x4 x5 x6 x7 d : Int) (hd : d % 65537 ≠ 0) : (blockE c h [x0, (x1 + d), x2, x3, x4, x5, x6, x7] (sumT c h [x0, x1, x2, x3, x4, x5, x6, x7]) != 0) = true := by
  apply blockE_ne
  rw [sumT_lin, sumT_lin]
  have e := lin_1 c h x0 x1 x2 x3 x4 x5 x6 x7 d
  rw [e]
  exact mod_ne _ d 2 hd (by omega)
theorem damage_2 (c h x0 x1 x2 x3 x4 x5 x6 x7 d : Int) (hd : d % 65537 ≠ 0) : (blockE c h [x0, x1, (x2 + d), x3, x4, x5, x6, x7] (sumT c h [x0, x1, x2, x3, x4, x5, x6, x7]) != 0) = true := by
  apply blockE_ne
  rw [sumT_lin, sumT_lin]
  have e := lin_2 c h x0 x1 x2 x3 x4 x5 x6 x7 d
  rw [e]
  exact mod_ne _ d 3 hd (by omega)
theorem damage_3 (c h x0 x1 x2 x3 x4 x5 x6 x7 d : Int) (hd : d % 65537 ≠ 0) : (blockE c h [x0, x1, x2, (x3 + d), x4, x5, x6, x7] (sumT c h [x0, x1, x2, x3, x4, x5, x6, x7]) != 0) = true := by
  apply blockE_ne
  rw [sumT_lin, sumT_lin]
  have e := lin_3 c h x0 x1 x2 x3 x4 x5 x6 x7 d
  rw [e]
  exact mod_ne _ d 4 hd (by omega)
theorem damage_4 (c h x0 x1 x2 x3 x4 x5 x6 x7 d : Int) (hd : d % 65537 ≠ 0) : (blockE c h [x0, x1, x2, x3, (x4 + d), x5, x6, x7] (sumT c h [x0, x1, x2, x3, x4, x5, x6, x7]) != 0) = true := by
  apply blockE_ne
  rw [sumT_lin, sumT_lin]
  have e := lin_4 c h x0 x1 x2 x3 x4 x5 x6 x7 d
  rw [e]
  exact mod_ne _ d 5 hd (by omega)
theorem damage_5 (c h x0 x1 x2 x3 x4 x5 x6 x7 d : Int) (hd : d % 65537 ≠ 0) : (blockE c h [x0, x1, x2, x3, x4, (x5 + d), x6, x7] (sumT c h [x0, x1, x2, x3, x4, x5, x6, x7]) != 0) = true := by
  apply blockE_ne
  rw [sumT_lin, sumT_lin]
  have e := lin_5 c h x0 x1 x2 x3 x4 x5 x6 x7 d
  rw [e]
  exact mod_ne _ d 6 hd (by omega)
theorem damage_6 (c h x0 x1 x2 x3 x4 x5 x6 x7 d : Int) (hd : d % 65537 ≠ 0) : (blockE c h [x0, x1, x2, x3, x4, x5, (x6 + d), x7] (sumT c h [x0, x1, x2, x3, x4, x5, x6, x7]) != 0) = true := by
  apply blockE_ne
  rw [sumT_lin, sumT_lin]
  have e := lin_6 c h x0 x1 x2 x3 x4 x5 x6 x7 d
  rw [e]
  exact mod_ne _ d 7 hd (by omega)
theorem damage_7 (c h x0 x1 x2 x3 x4 x5 x6 x7 d : Int) (hd : d % 65537 ≠ 0) : (blockE c h [x0, x1, x2, x3, x4, x5, x6, (x7 + d)] (sumT c h [x0, x1, x2, x3, x4, x5, x6, x7]) != 0) = true := by
  apply blockE_ne
  rw [sumT_lin, sumT_lin]
  have e := lin_7 c h x0 x1 x2 x3 x4 x5 x6 x7 d
  rw [e]
  exact mod_ne _ d 8 hd (by omega)
theorem damage_8 (c h x0 x1 x2 x3 x4 x5 x6 x7 d : Int) (hd : d % 65537 ≠ 0) : (blockE (c + d) h [x0, x1, x2, x3, x4, x5, x6, x7] (sumT c h [x0, x1, x2, x3, x4, x5, x6, x7]) != 0) = true := by
  apply blockE_ne
  rw [sumT_lin, sumT_lin]
  have e := lin_8 c h x0 x1 x2 x3 x4 x5 x6 x7 d
  rw [e]
  exact mod_ne _ d 9 hd (by omega)
theorem damage_9 (c h x0 x1 x2 x3 x4 x5 x6 x7 d : Int) (hd : d % 65537 ≠ 0) : (blockE c (h + d) [x0, x1, x2, x3, x4, x5, x6, x7] (sumT c h [x0, x1, x2, x3, x4, x5, x6, x7]) != 0) = true := by
  apply blockE_ne
  rw [sumT_lin, sumT_lin]
  have e := lin_9 c h x0 x1 x2 x3 x4 x5 x6 x7 d
  rw [e]
  exact mod_ne _ d 10 hd (by omega)
theorem damage_10 (c h x0 x1 x2 x3 x4 x5 x6 x7 d : Int) (hd : d % 65537 ≠ 0) : (blockE c h [x0, x1, x2, x3, x4, x5, x6, x7] (sumT c h [x0, x1, x2, x3, x4, x5, x6, x7] + d) != 0) = true := by
  apply blockE_ne
  omega

theorem damage_err (c h x0 x1 x2 x3 x4 x5 x6 x7 s a d : Int) (w : World) (hw : Laid w) (he : contE c h [x0, x1, x2, x3, x4, x5, x6, x7] ≠ 0) :
    Calls Tryd.prog 5 #[.agg #[.int .i64 c, .int .i64 h, .int .i64 x0, .int .i64 x1, .int .i64 x2, .int .i64 x3, .int .i64 x4, .int .i64 x5, .int .i64 x6, .int .i64 x7, .int .i64 s], .int .i64 a, .int .i64 d] w fun e w' => e = .returned (.bool true) ∧ Below w.heap.size w w' := by
  have he2 := contE_err he
  have CE : Hid (∀ W, Calls Tryd.prog 24 #[.agg #[.int .i64 c, .int .i64 h, .int .i64 x0, .int .i64 x1, .int .i64 x2, .int .i64 x3, .int .i64 x4, .int .i64 x5, .int .i64 x6, .int .i64 x7, .int .i64 s]] W fun e w' => e = .returned (.int .i64 2) ∧ Below W.heap.size W w') := fun W => by have := contentErr_any c h x0 x1 x2 x3 x4 x5 x6 x7 s W; rw [he2] at this; exact this
  have HW := Lib.hid hw
  clear hw he he2
  have B0 : Hid (Bk (w.alloc (.cells #[.int .i64 c, .int .i64 h, .int .i64 x0, .int .i64 x1, .int .i64 x2, .int .i64 x3, .int .i64 x4, .int .i64 x5, .int .i64 x6, .int .i64 x7, .int .i64 s] 37)) w.heap.size 37 #[.int .i64 c, .int .i64 h, .int .i64 x0, .int .i64 x1, .int .i64 x2, .int .i64 x3, .int .i64 x4, .int .i64 x5, .int .i64 x6, .int .i64 x7, .int .i64 s]) := Bk.new _ _ _
  have l0 : Hid (Below w.heap.size w (w.alloc (.cells #[.int .i64 c, .int .i64 h, .int .i64 x0, .int .i64 x1, .int .i64 x2, .int .i64 x3, .int .i64 x4, .int .i64 x5, .int .i64 x6, .int .i64 x7, .int .i64 s] 37))) := (Below.refl _ _).alloc (Nat.le_refl _) _
  go_enter Tryd.func5, Tryd.ntmps5
  go_wp2_with fail
  refine (awake_any _ (HW.out.later l0.out)).mono ?_
  rintro e w2 ⟨rfl, hb2⟩
  have B3 := B0.out.below hb2 (by simp)
  have l2 : Hid (Below w.heap.size w w2) := l0.out.trans (hb2.mono (by simp))
  have c0 := B3.cell 0
  have c1 := B3.cell 1
  have c2 := B3.cell 2
  have c3 := B3.cell 3
  have c4 := B3.cell 4
  have c5 := B3.cell 5
  have c6 := B3.cell 6
  have c7 := B3.cell 7
  have c8 := B3.cell 8
  have c9 := B3.cell 9
  have c10 := B3.cell 10
  simp at c0 c1 c2 c3 c4 c5 c6 c7 c8 c9 c10
  clear hb2 l0 B0 B3
  go_wp2_with fail
  refine (CE.out _).mono ?_
  rintro e w3 ⟨rfl, hb3⟩
  have l3 : Hid (Below w.heap.size w w3) := l2.out.trans (hb3.mono l2.out.size)
  clear hb3 c0 c1 c2 c3 c4 c5 c6 c7 c8 c9 c10
  go_wp2
  go_ret
  exact ⟨rfl, l3.out⟩

set_option maxRecDepth 100000 in
set_option maxHeartbeats 4000000 in
theorem damage_ok (c h x0 x1 x2 x3 x4 x5 x6 x7 s a d n : Int) (w : World) (hw : Laid w) (hn : sumT c h [x0, x1, x2, x3, x4, x5, x6, x7] = n) (he : contE c h [x0, x1, x2, x3, x4, x5, x6, x7] = 0) (ha0 : -9223372036854775808 ≤ a) (ha1 : a ≤ 9223372036854775807) :
    Calls Tryd.prog 5 #[.agg #[.int .i64 c, .int .i64 h, .int .i64 x0, .int .i64 x1, .int .i64 x2, .int .i64 x3, .int .i64 x4, .int .i64 x5, .int .i64 x6, .int .i64 x7, .int .i64 s], .int .i64 a, .int .i64 d] w fun e w' => e = .returned (.bool true) ∧ Below w.heap.size w w' := by
  have CE : Hid (∀ W, Calls Tryd.prog 24 #[.agg #[.int .i64 c, .int .i64 h, .int .i64 x0, .int .i64 x1, .int .i64 x2, .int .i64 x3, .int .i64 x4, .int .i64 x5, .int .i64 x6, .int .i64 x7, .int .i64 s]] W fun e w' => e = .returned (.int .i64 0) ∧ Below W.heap.size W w') := fun W => by have := contentErr_any c h x0 x1 x2 x3 x4 x5 x6 x7 s W; rw [he] at this; exact this
  have CS : Hid (∀ W, Calls Tryd.prog 21 #[.agg #[.int .i64 c, .int .i64 h, .int .i64 x0, .int .i64 x1, .int .i64 x2, .int .i64 x3, .int .i64 x4, .int .i64 x5, .int .i64 x6, .int .i64 x7, .int .i64 s]] W fun e w' => e = .returned (.tuple #[.int .i64 n, .int .i64 0]) ∧ Below W.heap.size W w') := fun W => by rw [← hn]; exact sum_ok c h x0 x1 x2 x3 x4 x5 x6 x7 s W he
  have CB : Hid (∀ W, Calls Tryd.prog 22 #[.agg #[.int .i64 c, .int .i64 h, .int .i64 x0, .int .i64 x1, .int .i64 x2, .int .i64 x3, .int .i64 x4, .int .i64 x5, .int .i64 x6, .int .i64 x7, .int .i64 n]] W fun e w' => e = .returned (.int .i64 0) ∧ Below W.heap.size W w') := fun W => by
    have := checkBlock_any c h x0 x1 x2 x3 x4 x5 x6 x7 n W
    rw [show blockE c h [x0, x1, x2, x3, x4, x5, x6, x7] n = 0 by rw [blockE, if_pos he, if_pos hn.symm]] at this
    exact this
  have hnb : 0 ≤ n ∧ n ≤ 65536 := by rw [← hn, sumT]; have := Int.emod_nonneg (sumTo c h [x0, x1, x2, x3, x4, x5, x6, x7] 8) (show (65537 : Int) ≠ 0 by omega); have := Int.emod_lt_of_pos (sumTo c h [x0, x1, x2, x3, x4, x5, x6, x7] 8) (show (0 : Int) < 65537 by omega); omega
  have CW : Hid (∀ W, Calls Tryd.prog 26 #[.int .i64 n, .int .i64 0, .int .i64 65536] W fun e w' => e = .returned (.bool true) ∧ W = w') := fun W => by
    have := within_any n 0 65536 W
    rw [show inB n 0 65536 = true by simp [inB, hnb]] at this
    exact this
  obtain ⟨g1, g2, g3⟩ := contE_ok he
  have b0 := g3 0
  have b1 := g3 1
  have b2 := g3 2
  have b3 := g3 3
  have b4 := g3 4
  have b5 := g3 5
  have b6 := g3 6
  have b7 := g3 7
  simp at b0 b1 b2 b3 b4 b5 b6 b7
  have HW := Lib.hid hw
  have HN := Lib.hid hn
  clear hw he hn g3
  have B0 : Hid (Bk (w.alloc (.cells #[.int .i64 c, .int .i64 h, .int .i64 x0, .int .i64 x1, .int .i64 x2, .int .i64 x3, .int .i64 x4, .int .i64 x5, .int .i64 x6, .int .i64 x7, .int .i64 s] 37)) w.heap.size 37 #[.int .i64 c, .int .i64 h, .int .i64 x0, .int .i64 x1, .int .i64 x2, .int .i64 x3, .int .i64 x4, .int .i64 x5, .int .i64 x6, .int .i64 x7, .int .i64 s]) := Bk.new _ _ _
  have l0 : Hid (Below w.heap.size w (w.alloc (.cells #[.int .i64 c, .int .i64 h, .int .i64 x0, .int .i64 x1, .int .i64 x2, .int .i64 x3, .int .i64 x4, .int .i64 x5, .int .i64 x6, .int .i64 x7, .int .i64 s] 37))) := (Below.refl _ _).alloc (Nat.le_refl _) _
  go_enter Tryd.func5, Tryd.ntmps5
  go_wp2_with fail
  refine (awake_any _ (HW.out.later l0.out)).mono ?_
  rintro e w2 ⟨rfl, hb2⟩
  have B3 := B0.out.below hb2 (by simp)
  have l2 : Hid (Below w.heap.size w w2) := l0.out.trans (hb2.mono (by simp))
  have HB2 := Lib.hid B3
  have c0 := B3.cell 0
  have c1 := B3.cell 1
  have c2 := B3.cell 2
  have c3 := B3.cell 3
  have c4 := B3.cell 4
  have c5 := B3.cell 5
  have c6 := B3.cell 6
  have c7 := B3.cell 7
  have c8 := B3.cell 8
  have c9 := B3.cell 9
  have c10 := B3.cell 10
  simp at c0 c1 c2 c3 c4 c5 c6 c7 c8 c9 c10
  clear hb2 l0 B0 B3
  go_wp2_with fail
  refine (CE.out _).mono ?_
  rintro e w3 ⟨rfl, hb3⟩
  have B3 := HB2.out.below hb3 HB2.out.lt
  have l3 : Hid (Below w.heap.size w w3) := l2.out.trans (hb3.mono l2.out.size)
  clear c0 c1 c2 c3 c4 c5 c6 c7 c8 c9 c10
  have c0 := B3.cell 0
  have c1 := B3.cell 1
  have c2 := B3.cell 2
  have c3 := B3.cell 3
  have c4 := B3.cell 4
  have c5 := B3.cell 5
  have c6 := B3.cell 6
  have c7 := B3.cell 7
  have c8 := B3.cell 8
  have c9 := B3.cell 9
  have c10 := B3.cell 10
  simp at c0 c1 c2 c3 c4 c5 c6 c7 c8 c9 c10
  have HB3 := Lib.hid B3
  clear hb3 l2 HB2 B3
  go_wp2_with fail
  refine (CS.out _).mono ?_
  rintro e w4 ⟨rfl, hb4⟩
  have B3 := HB3.out.below hb4 HB3.out.lt
  have l4 : Hid (Below w.heap.size w w4) := l3.out.trans (hb4.mono l3.out.size)
  clear c0 c1 c2 c3 c4 c5 c6 c7 c8 c9 c10
  have c0 := B3.cell 0
  have c1 := B3.cell 1
  have c2 := B3.cell 2
  have c3 := B3.cell 3
  have c4 := B3.cell 4
  have c5 := B3.cell 5
  have c6 := B3.cell 6
  have c7 := B3.cell 7
  have c8 := B3.cell 8
  have c9 := B3.cell 9
  have c10 := B3.cell 10
  simp at c0 c1 c2 c3 c4 c5 c6 c7 c8 c9 c10
  have f10 := B3.frozen 10
  have HB4 := Lib.hid B3
  have z4 : w.heap.size < w4.heap.size := B3.lt
  clear hb4 l3 HB3 B3
  go_wp2_with fail
  refine (CB.out _).mono ?_
  rintro e w5 ⟨rfl, hb5⟩
  have B3 : Bk w5 w.heap.size 37 #[.int .i64 c, .int .i64 h, .int .i64 x0, .int .i64 x1, .int .i64 x2, .int .i64 x3, .int .i64 x4, .int .i64 x5, .int .i64 x6, .int .i64 x7, .int .i64 n] := by
    have := (HB4.out.set_ 10 (.int .i64 n)).below hb5 (by simpa [World.setCell] using z4)
    exact this
  have l5 : Hid (Below w.heap.size w w5) := (l4.out.setCell (p := ⟨w.heap.size, 10, none⟩) (Nat.le_refl _) _).trans (hb5.mono (by simp [World.setCell]; omega))
  clear c0 c1 c2 c3 c4 c5 c6 c7 c8 c9 c10 f10
  have c0 := B3.cell 0
  have c1 := B3.cell 1
  have c2 := B3.cell 2
  have c3 := B3.cell 3
  have c4 := B3.cell 4
  have c5 := B3.cell 5
  have c6 := B3.cell 6
  have c7 := B3.cell 7
  have c8 := B3.cell 8
  have c9 := B3.cell 9
  have c10 := B3.cell 10
  simp at c0 c1 c2 c3 c4 c5 c6 c7 c8 c9 c10
  have z5 : w.heap.size < w5.heap.size := B3.lt
  have fz : ∀ j, w5.frozen? ⟨w.heap.size, j, none⟩ = false := fun j => B3.frozen j
  have HFZ := Lib.hid fz
  clear hb5 l4 HB4 fz z4
  obtain ⟨t1, ht1⟩ : ∃ t, inB d (-200000) 200000 = t := ⟨_, rfl⟩
  have CD : Hid (∀ W, Calls Tryd.prog 26 #[.int .i64 d, .int .i64 (-200000), .int .i64 200000] W fun e w' => e = .returned (.bool t1) ∧ W = w') := fun W => by rw [← ht1]; exact within_any d _ _ W
  have HT1 := Lib.hid ht1
  clear ht1
  go_wp2_with fail
  refine (CW.out _).mono ?_
  rintro e w6 ⟨rfl, rfl⟩
  go_wp2_with fail
  refine (CD.out _).mono ?_
  rintro e w6 ⟨rfl, rfl⟩
  cases t1
  · clear c0 c1 c2 c3 c4 c5 c6 c7 c8 c9 c10
    go_wp2
    go_ret
    exact ⟨rfl, l5.out⟩
  have hdb : -200000 ≤ d ∧ d ≤ 200000 := by have := HT1.out; simpa [inB] using this
  by_cases hz : d.tmod 65537 = 0
  · have hz1 : (d.tmod 65537 == 0) = true := by simpa using hz
    clear hz c0 c1 c2 c3 c4 c5 c6 c7 c8 c9 c10
    go_wp2
    go_ret
    exact ⟨rfl, l5.out⟩
  have hz1 : (d.tmod 65537 == 0) = false := by simpa using hz
  have hdm : Hid (d % 65537 ≠ 0) := by
    intro e
    rcases tmod_eq d 65537 (by omega) with q | q
    · exact hz (q.trans e)
    · have := tmod_bd d 65537 (by omega); omega
  clear hz
  obtain ⟨k, hk⟩ : ∃ k, a % 11 = k := ⟨_, rfl⟩
  have hkb : 0 ≤ k ∧ k < 11 := by rw [← hk]; exact ⟨Int.emod_nonneg _ (by omega), Int.emod_lt_of_pos _ (by omega)⟩
  have CM : Hid (∀ W, Calls Tryd.prog 27 #[.int .i64 a, .int .i64 11] W fun e w' => e = .returned (.int .i64 k) ∧ W = w') := fun W => by rw [← hk]; exact mod_any a 11 ha0 ha1 (by omega) (by omega) W
  clear hk
  go_wp2_with fail
  refine (CM.out _).mono ?_
  rintro e w6 ⟨rfl, rfl⟩
  obtain rfl | rfl | rfl | rfl | rfl | rfl | rfl | rfl | rfl | rfl | rfl : k = 0 ∨ k = 1 ∨ k = 2 ∨ k = 3 ∨ k = 4 ∨ k = 5 ∨ k = 6 ∨ k = 7 ∨ k = 8 ∨ k = 9 ∨ k = 10 := by omega
  · have D := damage_0 c h x0 x1 x2 x3 x4 x5 x6 x7 d hdm.out
    rw [HN.out] at D
    have f := HFZ.out 2
    obtain ⟨E, hE⟩ : ∃ E, blockE c h [(x0 + d), x1, x2, x3, x4, x5, x6, x7] n = E := ⟨_, rfl⟩
    rw [hE] at D
    have C : Hid (∀ W, Calls Tryd.prog 22 #[.agg #[.int .i64 c, .int .i64 h, .int .i64 (x0 + d), .int .i64 x1, .int .i64 x2, .int .i64 x3, .int .i64 x4, .int .i64 x5, .int .i64 x6, .int .i64 x7, .int .i64 n]] W fun e w' => e = .returned (.int .i64 E) ∧ Below W.heap.size W w') := fun W => by rw [← hE]; exact checkBlock_any c h (x0 + d) x1 x2 x3 x4 x5 x6 x7 n W
    clear hE
    go_wp2_with fail
    refine (C.out _).mono ?_
    rintro e w7 ⟨rfl, hb7⟩
    have l7 : Hid (Below w.heap.size w w7) := (l5.out.setCell (p := ⟨w.heap.size, 2, none⟩) (Nat.le_refl _) _).trans (hb7.mono (by simp [World.setCell]; omega))
    clear hb7 c0 c1 c2 c3 c4 c5 c6 c7 c8 c9 c10
    go_wp2
    go_ret
    exact ⟨rfl, l7.out⟩
  · have D := damage_1 c h x0 x1 x2 x3 x4 x5 x6 x7 d hdm.out
    rw [HN.out] at D
    have f := HFZ.out 3
    obtain ⟨E, hE⟩ : ∃ E, blockE c h [x0, (x1 + d), x2, x3, x4, x5, x6, x7] n = E := ⟨_, rfl⟩
    rw [hE] at D
    have C : Hid (∀ W, Calls Tryd.prog 22 #[.agg #[.int .i64 c, .int .i64 h, .int .i64 x0, .int .i64 (x1 + d), .int .i64 x2, .int .i64 x3, .int .i64 x4, .int .i64 x5, .int .i64 x6, .int .i64 x7, .int .i64 n]] W fun e w' => e = .returned (.int .i64 E) ∧ Below W.heap.size W w') := fun W => by rw [← hE]; exact checkBlock_any c h x0 (x1 + d) x2 x3 x4 x5 x6 x7 n W
    clear hE
    go_wp2_with fail
    refine (C.out _).mono ?_
    rintro e w7 ⟨rfl, hb7⟩
    have l7 : Hid (Below w.heap.size w w7) := (l5.out.setCell (p := ⟨w.heap.size, 3, none⟩) (Nat.le_refl _) _).trans (hb7.mono (by simp [World.setCell]; omega))
    clear hb7 c0 c1 c2 c3 c4 c5 c6 c7 c8 c9 c10
    go_wp2
    go_ret
    exact ⟨rfl, l7.out⟩
  · have D := damage_2 c h x0 x1 x2 x3 x4 x5 x6 x7 d hdm.out
    rw [HN.out] at D
    have f := HFZ.out 4
    obtain ⟨E, hE⟩ : ∃ E, blockE c h [x0, x1, (x2 + d), x3, x4, x5, x6, x7] n = E := ⟨_, rfl⟩
    rw [hE] at D
    have C : Hid (∀ W, Calls Tryd.prog 22 #[.agg #[.int .i64 c, .int .i64 h, .int .i64 x0, .int .i64 x1, .int .i64 (x2 + d), .int .i64 x3, .int .i64 x4, .int .i64 x5, .int .i64 x6, .int .i64 x7, .int .i64 n]] W fun e w' => e = .returned (.int .i64 E) ∧ Below W.heap.size W w') := fun W => by rw [← hE]; exact checkBlock_any c h x0 x1 (x2 + d) x3 x4 x5 x6 x7 n W
    clear hE
    go_wp2_with fail
    refine (C.out _).mono ?_
    rintro e w7 ⟨rfl, hb7⟩
    have l7 : Hid (Below w.heap.size w w7) := (l5.out.setCell (p := ⟨w.heap.size, 4, none⟩) (Nat.le_refl _) _).trans (hb7.mono (by simp [World.setCell]; omega))
    clear hb7 c0 c1 c2 c3 c4 c5 c6 c7 c8 c9 c10
    go_wp2
    go_ret
    exact ⟨rfl, l7.out⟩
  · have D := damage_3 c h x0 x1 x2 x3 x4 x5 x6 x7 d hdm.out
    rw [HN.out] at D
    have f := HFZ.out 5
    obtain ⟨E, hE⟩ : ∃ E, blockE c h [x0, x1, x2, (x3 + d), x4, x5, x6, x7] n = E := ⟨_, rfl⟩
    rw [hE] at D
    have C : Hid (∀ W, Calls Tryd.prog 22 #[.agg #[.int .i64 c, .int .i64 h, .int .i64 x0, .int .i64 x1, .int .i64 x2, .int .i64 (x3 + d), .int .i64 x4, .int .i64 x5, .int .i64 x6, .int .i64 x7, .int .i64 n]] W fun e w' => e = .returned (.int .i64 E) ∧ Below W.heap.size W w') := fun W => by rw [← hE]; exact checkBlock_any c h x0 x1 x2 (x3 + d) x4 x5 x6 x7 n W
    clear hE
    go_wp2_with fail
    refine (C.out _).mono ?_
    rintro e w7 ⟨rfl, hb7⟩
    have l7 : Hid (Below w.heap.size w w7) := (l5.out.setCell (p := ⟨w.heap.size, 5, none⟩) (Nat.le_refl _) _).trans (hb7.mono (by simp [World.setCell]; omega))
    clear hb7 c0 c1 c2 c3 c4 c5 c6 c7 c8 c9 c10
    go_wp2
    go_ret
    exact ⟨rfl, l7.out⟩
  · have D := damage_4 c h x0 x1 x2 x3 x4 x5 x6 x7 d hdm.out
    rw [HN.out] at D
    have f := HFZ.out 6
    obtain ⟨E, hE⟩ : ∃ E, blockE c h [x0, x1, x2, x3, (x4 + d), x5, x6, x7] n = E := ⟨_, rfl⟩
    rw [hE] at D
    have C : Hid (∀ W, Calls Tryd.prog 22 #[.agg #[.int .i64 c, .int .i64 h, .int .i64 x0, .int .i64 x1, .int .i64 x2, .int .i64 x3, .int .i64 (x4 + d), .int .i64 x5, .int .i64 x6, .int .i64 x7, .int .i64 n]] W fun e w' => e = .returned (.int .i64 E) ∧ Below W.heap.size W w') := fun W => by rw [← hE]; exact checkBlock_any c h x0 x1 x2 x3 (x4 + d) x5 x6 x7 n W
    clear hE
    go_wp2_with fail
    refine (C.out _).mono ?_
    rintro e w7 ⟨rfl, hb7⟩
    have l7 : Hid (Below w.heap.size w w7) := (l5.out.setCell (p := ⟨w.heap.size, 6, none⟩) (Nat.le_refl _) _).trans (hb7.mono (by simp [World.setCell]; omega))
    clear hb7 c0 c1 c2 c3 c4 c5 c6 c7 c8 c9 c10
    go_wp2
    go_ret
    exact ⟨rfl, l7.out⟩
  · have D := damage_5 c h x0 x1 x2 x3 x4 x5 x6 x7 d hdm.out
    rw [HN.out] at D
    have f := HFZ.out 7
    obtain ⟨E, hE⟩ : ∃ E, blockE c h [x0, x1, x2, x3, x4, (x5 + d), x6, x7] n = E := ⟨_, rfl⟩
    rw [hE] at D
    have C : Hid (∀ W, Calls Tryd.prog 22 #[.agg #[.int .i64 c, .int .i64 h, .int .i64 x0, .int .i64 x1, .int .i64 x2, .int .i64 x3, .int .i64 x4, .int .i64 (x5 + d), .int .i64 x6, .int .i64 x7, .int .i64 n]] W fun e w' => e = .returned (.int .i64 E) ∧ Below W.heap.size W w') := fun W => by rw [← hE]; exact checkBlock_any c h x0 x1 x2 x3 x4 (x5 + d) x6 x7 n W
    clear hE
    go_wp2_with fail
    refine (C.out _).mono ?_
    rintro e w7 ⟨rfl, hb7⟩
    have l7 : Hid (Below w.heap.size w w7) := (l5.out.setCell (p := ⟨w.heap.size, 7, none⟩) (Nat.le_refl _) _).trans (hb7.mono (by simp [World.setCell]; omega))
    clear hb7 c0 c1 c2 c3 c4 c5 c6 c7 c8 c9 c10
    go_wp2
    go_ret
    exact ⟨rfl, l7.out⟩
  · have D := damage_6 c h x0 x1 x2 x3 x4 x5 x6 x7 d hdm.out
    rw [HN.out] at D
    have f := HFZ.out 8
    obtain ⟨E, hE⟩ : ∃ E, blockE c h [x0, x1, x2, x3, x4, x5, (x6 + d), x7] n = E := ⟨_, rfl⟩
    rw [hE] at D
    have C : Hid (∀ W, Calls Tryd.prog 22 #[.agg #[.int .i64 c, .int .i64 h, .int .i64 x0, .int .i64 x1, .int .i64 x2, .int .i64 x3, .int .i64 x4, .int .i64 x5, .int .i64 (x6 + d), .int .i64 x7, .int .i64 n]] W fun e w' => e = .returned (.int .i64 E) ∧ Below W.heap.size W w') := fun W => by rw [← hE]; exact checkBlock_any c h x0 x1 x2 x3 x4 x5 (x6 + d) x7 n W
    clear hE
    go_wp2_with fail
    refine (C.out _).mono ?_
    rintro e w7 ⟨rfl, hb7⟩
    have l7 : Hid (Below w.heap.size w w7) := (l5.out.setCell (p := ⟨w.heap.size, 8, none⟩) (Nat.le_refl _) _).trans (hb7.mono (by simp [World.setCell]; omega))
    clear hb7 c0 c1 c2 c3 c4 c5 c6 c7 c8 c9 c10
    go_wp2
    go_ret
    exact ⟨rfl, l7.out⟩
  · have D := damage_7 c h x0 x1 x2 x3 x4 x5 x6 x7 d hdm.out
    rw [HN.out] at D
    have f := HFZ.out 9
    obtain ⟨E, hE⟩ : ∃ E, blockE c h [x0, x1, x2, x3, x4, x5, x6, (x7 + d)] n = E := ⟨_, rfl⟩
    rw [hE] at D
    have C : Hid (∀ W, Calls Tryd.prog 22 #[.agg #[.int .i64 c, .int .i64 h, .int .i64 x0, .int .i64 x1, .int .i64 x2, .int .i64 x3, .int .i64 x4, .int .i64 x5, .int .i64 x6, .int .i64 (x7 + d), .int .i64 n]] W fun e w' => e = .returned (.int .i64 E) ∧ Below W.heap.size W w') := fun W => by rw [← hE]; exact checkBlock_any c h x0 x1 x2 x3 x4 x5 x6 (x7 + d) n W
    clear hE
    go_wp2_with fail
    refine (C.out _).mono ?_
    rintro e w7 ⟨rfl, hb7⟩
    have l7 : Hid (Below w.heap.size w w7) := (l5.out.setCell (p := ⟨w.heap.size, 9, none⟩) (Nat.le_refl _) _).trans (hb7.mono (by simp [World.setCell]; omega))
    clear hb7 c0 c1 c2 c3 c4 c5 c6 c7 c8 c9 c10
    go_wp2
    go_ret
    exact ⟨rfl, l7.out⟩
  · have D := damage_8 c h x0 x1 x2 x3 x4 x5 x6 x7 d hdm.out
    rw [HN.out] at D
    have f := HFZ.out 0
    obtain ⟨E, hE⟩ : ∃ E, blockE (c + d) h [x0, x1, x2, x3, x4, x5, x6, x7] n = E := ⟨_, rfl⟩
    rw [hE] at D
    have C : Hid (∀ W, Calls Tryd.prog 22 #[.agg #[.int .i64 (c + d), .int .i64 h, .int .i64 x0, .int .i64 x1, .int .i64 x2, .int .i64 x3, .int .i64 x4, .int .i64 x5, .int .i64 x6, .int .i64 x7, .int .i64 n]] W fun e w' => e = .returned (.int .i64 E) ∧ Below W.heap.size W w') := fun W => by rw [← hE]; exact checkBlock_any (c + d) h x0 x1 x2 x3 x4 x5 x6 x7 n W
    clear hE
    go_wp2_with fail
    refine (C.out _).mono ?_
    rintro e w7 ⟨rfl, hb7⟩
    have l7 : Hid (Below w.heap.size w w7) := (l5.out.setCell (p := ⟨w.heap.size, 0, none⟩) (Nat.le_refl _) _).trans (hb7.mono (by simp [World.setCell]; omega))
    clear hb7 c0 c1 c2 c3 c4 c5 c6 c7 c8 c9 c10
    go_wp2
    go_ret
    exact ⟨rfl, l7.out⟩
  · have D := damage_9 c h x0 x1 x2 x3 x4 x5 x6 x7 d hdm.out
    rw [HN.out] at D
    have f := HFZ.out 1
    obtain ⟨E, hE⟩ : ∃ E, blockE c (h + d) [x0, x1, x2, x3, x4, x5, x6, x7] n = E := ⟨_, rfl⟩
    rw [hE] at D
    have C : Hid (∀ W, Calls Tryd.prog 22 #[.agg #[.int .i64 c, .int .i64 (h + d), .int .i64 x0, .int .i64 x1, .int .i64 x2, .int .i64 x3, .int .i64 x4, .int .i64 x5, .int .i64 x6, .int .i64 x7, .int .i64 n]] W fun e w' => e = .returned (.int .i64 E) ∧ Below W.heap.size W w') := fun W => by rw [← hE]; exact checkBlock_any c (h + d) x0 x1 x2 x3 x4 x5 x6 x7 n W
    clear hE
    go_wp2_with fail
    refine (C.out _).mono ?_
    rintro e w7 ⟨rfl, hb7⟩
    have l7 : Hid (Below w.heap.size w w7) := (l5.out.setCell (p := ⟨w.heap.size, 1, none⟩) (Nat.le_refl _) _).trans (hb7.mono (by simp [World.setCell]; omega))
    clear hb7 c0 c1 c2 c3 c4 c5 c6 c7 c8 c9 c10
    go_wp2
    go_ret
    exact ⟨rfl, l7.out⟩
  · have D := damage_10 c h x0 x1 x2 x3 x4 x5 x6 x7 d hdm.out
    rw [HN.out] at D
    have f := HFZ.out 10
    obtain ⟨E, hE⟩ : ∃ E, blockE c h [x0, x1, x2, x3, x4, x5, x6, x7] (n + d) = E := ⟨_, rfl⟩
    rw [hE] at D
    have C : Hid (∀ W, Calls Tryd.prog 22 #[.agg #[.int .i64 c, .int .i64 h, .int .i64 x0, .int .i64 x1, .int .i64 x2, .int .i64 x3, .int .i64 x4, .int .i64 x5, .int .i64 x6, .int .i64 x7, .int .i64 (n + d)]] W fun e w' => e = .returned (.int .i64 E) ∧ Below W.heap.size W w') := fun W => by rw [← hE]; exact checkBlock_any c h x0 x1 x2 x3 x4 x5 x6 x7 (n + d) W
    clear hE
    go_wp2_with fail
    refine (C.out _).mono ?_
    rintro e w7 ⟨rfl, hb7⟩
    have l7 : Hid (Below w.heap.size w w7) := (l5.out.setCell (p := ⟨w.heap.size, 10, none⟩) (Nat.le_refl _) _).trans (hb7.mono (by simp [World.setCell]; omega))
    clear hb7 c0 c1 c2 c3 c4 c5 c6 c7 c8 c9 c10
    go_wp2
    go_ret
    exact ⟨rfl, l7.out⟩

theorem damage_walk (c h x0 x1 x2 x3 x4 x5 x6 x7 s a d : Int) (w : World) (hw : Laid w) (ha0 : -9223372036854775808 ≤ a) (ha1 : a ≤ 9223372036854775807) :
    Calls Tryd.prog 5 #[.agg #[.int .i64 c, .int .i64 h, .int .i64 x0, .int .i64 x1, .int .i64 x2, .int .i64 x3, .int .i64 x4, .int .i64 x5, .int .i64 x6, .int .i64 x7, .int .i64 s], .int .i64 a, .int .i64 d] w fun e w' => e = .returned (.bool true) ∧ Below w.heap.size w w' := by
  by_cases he : contE c h [x0, x1, x2, x3, x4, x5, x6, x7] = 0
  · exact damage_ok c h x0 x1 x2 x3 x4 x5 x6 x7 s a d _ w hw rfl he ha0 ha1
  · exact damage_err c h x0 x1 x2 x3 x4 x5 x6 x7 s a d w hw he

end Go.Proofs.YtbalecopdoabmaaDoor
