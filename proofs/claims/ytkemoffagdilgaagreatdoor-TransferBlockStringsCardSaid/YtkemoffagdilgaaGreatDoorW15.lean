import Derived.Test.YtkemoffagdilgaaGreatDoorW14
namespace Go.Proofs.YtkemoffagdilgaaGreatDoor
open Go.RowKit

theorem contE_ok {c h : Int} {xs : List Int} (e : contE c h xs = 0) : (0 ≤ c ∧ c ≤ 65535) ∧ (0 ≤ h ∧ h ≤ 3) ∧ Bnd xs 32767 := by
  rw [contE_cases] at e
  have e2 : (inB c 0 65535 && inB h 0 3 && smpB xs) = true := by
    by_cases g : (inB c 0 65535 && inB h 0 3 && smpB xs) = true
    · exact g
    · rw [if_neg g] at e; cases e
  simp only [Bool.and_eq_true] at e2
  obtain ⟨⟨a, b⟩, d⟩ := e2
  simp only [inB, Bool.and_eq_true, decide_eq_true_eq] at a b
  exact ⟨a, b, bnd_of_rangesE xs (by simpa [smpB] using d)⟩
theorem contE_err {c h : Int} {xs : List Int} (e : contE c h xs ≠ 0) : contE c h xs = 2 := by
  rw [contE_cases] at e ⊢
  split
  · rename_i g; rw [if_pos g] at e; exact absurd rfl e
  · rfl

theorem sum_ok (c h x0 x1 x2 x3 x4 x5 x6 x7 s : Int) (w : World) (he : contE c h [x0, x1, x2, x3, x4, x5, x6, x7] = 0) :
    Calls Tryz.prog 13 #[.agg #[.int .i64 c, .int .i64 h, .int .i64 x0, .int .i64 x1, .int .i64 x2, .int .i64 x3, .int .i64 x4, .int .i64 x5, .int .i64 x6, .int .i64 x7, .int .i64 s]] w fun e w' => e = .returned (.tuple #[.int .i64 (sumT c h [x0, x1, x2, x3, x4, x5, x6, x7]), .int .i64 0]) ∧ Below w.heap.size w w' := by
  obtain ⟨h1, h2, h3⟩ := contE_ok he
  have C1 : Hid (∀ W, Calls Tryz.prog 38 #[.agg #[.int .i64 c, .int .i64 h, .int .i64 x0, .int .i64 x1, .int .i64 x2, .int .i64 x3, .int .i64 x4, .int .i64 x5, .int .i64 x6, .int .i64 x7, .int .i64 s]] W fun e w' => e = .returned (.int .i64 0) ∧ Below W.heap.size W w') := fun W => by rw [← he]; exact checkContents_any c h x0 x1 x2 x3 x4 x5 x6 x7 s W
  have C2 : Hid (∀ W, Calls Tryz.prog 39 #[.agg #[.int .i64 c, .int .i64 h, .int .i64 x0, .int .i64 x1, .int .i64 x2, .int .i64 x3, .int .i64 x4, .int .i64 x5, .int .i64 x6, .int .i64 x7, .int .i64 s]] W fun e w' => e = .returned (.int .i64 (sumT c h [x0, x1, x2, x3, x4, x5, x6, x7])) ∧ Below W.heap.size W w') := fun W => sumOf_ok c h x0 x1 x2 x3 x4 x5 x6 x7 s W h1 h2 h3
  clear h1 h2 h3 he
  have B0 : Hid (Bk (w.alloc (.cells #[.int .i64 c, .int .i64 h, .int .i64 x0, .int .i64 x1, .int .i64 x2, .int .i64 x3, .int .i64 x4, .int .i64 x5, .int .i64 x6, .int .i64 x7, .int .i64 s] 24)) w.heap.size 24 #[.int .i64 c, .int .i64 h, .int .i64 x0, .int .i64 x1, .int .i64 x2, .int .i64 x3, .int .i64 x4, .int .i64 x5, .int .i64 x6, .int .i64 x7, .int .i64 s]) := Bk.new _ _ _
  go_enter Tryz.func13, Tryz.ntmps13
  go_wp2_with fail
  refine (C1.out _).mono ?_
  rintro e w2 ⟨rfl, hb2⟩
  have B2 := B0.out.below hb2 (by simp)
  have l2 : Hid (Below w.heap.size w w2) := ((Below.refl _ _).alloc (Nat.le_refl _) _).trans (hb2.mono (by simp))
  have c0 := B2.cell 0
  have c1 := B2.cell 1
  have c2 := B2.cell 2
  have c3 := B2.cell 3
  have c4 := B2.cell 4
  have c5 := B2.cell 5
  have c6 := B2.cell 6
  have c7 := B2.cell 7
  have c8 := B2.cell 8
  have c9 := B2.cell 9
  have c10 := B2.cell 10
  clear hb2 B2
  go_wp2_with fail
  refine (C2.out _).mono ?_
  rintro e w3 ⟨rfl, hb3⟩
  have l3 : Hid (Below w.heap.size w w3) := l2.out.trans (hb3.mono l2.out.size)
  clear hb3
  go_wp2
  go_ret2
  exact ⟨rfl, l3.out⟩

theorem sum_err (c h x0 x1 x2 x3 x4 x5 x6 x7 s : Int) (w : World) (he : contE c h [x0, x1, x2, x3, x4, x5, x6, x7] ≠ 0) :
    Calls Tryz.prog 13 #[.agg #[.int .i64 c, .int .i64 h, .int .i64 x0, .int .i64 x1, .int .i64 x2, .int .i64 x3, .int .i64 x4, .int .i64 x5, .int .i64 x6, .int .i64 x7, .int .i64 s]] w fun e w' => e = .returned (.tuple #[.int .i64 0, .int .i64 2]) ∧ Below w.heap.size w w' := by
  have he2 := contE_err he
  have C1 : Hid (∀ W, Calls Tryz.prog 38 #[.agg #[.int .i64 c, .int .i64 h, .int .i64 x0, .int .i64 x1, .int .i64 x2, .int .i64 x3, .int .i64 x4, .int .i64 x5, .int .i64 x6, .int .i64 x7, .int .i64 s]] W fun e w' => e = .returned (.int .i64 2) ∧ Below W.heap.size W w') := fun W => by rw [← he2]; exact checkContents_any c h x0 x1 x2 x3 x4 x5 x6 x7 s W
  clear he he2
  go_enter Tryz.func13, Tryz.ntmps13
  go_wp2_with fail
  refine (C1.out _).mono ?_
  rintro e w2 ⟨rfl, hb2⟩
  have l2 : Hid (Below w.heap.size w w2) := ((Below.refl _ _).alloc (Nat.le_refl _) _).trans (hb2.mono (by simp))
  clear hb2
  go_wp2
  go_ret2
  exact ⟨rfl, l2.out⟩

/-- A block's own cells, held in a world. -/
def Held11 (w : World) (g : Nat) (c h x0 x1 x2 x3 x4 x5 x6 x7 s : Int) : Prop := Bk w g 24 #[.int .i64 c, .int .i64 h, .int .i64 x0, .int .i64 x1, .int .i64 x2, .int .i64 x3, .int .i64 x4, .int .i64 x5, .int .i64 x6, .int .i64 x7, .int .i64 s]

set_option maxRecDepth 100000 in
set_option maxHeartbeats 1000000 in
theorem isTorn_core (c h x0 x1 x2 x3 x4 x5 x6 x7 s n : Int) (w : World) (hn : ∀ W, Calls Tryz.prog 39 #[.agg #[.int .i64 c, .int .i64 h, .int .i64 x0, .int .i64 x1, .int .i64 x2, .int .i64 x3, .int .i64 x4, .int .i64 x5, .int .i64 x6, .int .i64 x7, .int .i64 s]] W fun e w' => e = .returned (.int .i64 n) ∧ Below W.heap.size W w') :
    Calls Tryz.prog 47 #[.agg #[.int .i64 c, .int .i64 h, .int .i64 x0, .int .i64 x1, .int .i64 x2, .int .i64 x3, .int .i64 x4, .int .i64 x5, .int .i64 x6, .int .i64 x7, .int .i64 s]] w fun e w' => e = .returned (.bool (s != n)) ∧ Below w.heap.size w w' := by
  have C2 := Lib.hid hn
  clear hn
  go_enter Tryz.func47, Tryz.ntmps47
  go_wp2_with fail
  go_region_held3 (fun w' => w'.cell? ⟨w.heap.size, 0, none⟩ = some (.int .i64 c) ∧ w'.cell? ⟨w.heap.size, 1, none⟩ = some (.int .i64 h) ∧ w'.cell? ⟨w.heap.size, 2, none⟩ = some (.int .i64 x0) ∧ w'.cell? ⟨w.heap.size, 3, none⟩ = some (.int .i64 x1) ∧ w'.cell? ⟨w.heap.size, 4, none⟩ = some (.int .i64 x2) ∧ w'.cell? ⟨w.heap.size, 5, none⟩ = some (.int .i64 x3) ∧ w'.cell? ⟨w.heap.size, 6, none⟩ = some (.int .i64 x4) ∧ w'.cell? ⟨w.heap.size, 7, none⟩ = some (.int .i64 x5) ∧ w'.cell? ⟨w.heap.size, 8, none⟩ = some (.int .i64 x6) ∧ w'.cell? ⟨w.heap.size, 9, none⟩ = some (.int .i64 x7) ∧ w'.cell? ⟨w.heap.size, 10, none⟩ = some (.int .i64 s))
    (first | go_keep | (go_split_ands; refine ⟨?_, ?_, ?_, ?_, ?_, ?_, ?_, ?_, ?_, ?_, ?_⟩ <;> (rw [hb.cell (by simp)]; simp [go_sem])))
    (first
      | (go_at_call 39; refine (C2.out _).mono ?_; rintro e w' ⟨rfl, hb⟩))
  go_wp2
  go_ret
  exact ⟨rfl, (((Below.refl _ _).alloc (Nat.le_refl _) _).drew).trans (hb.mono (by simp))⟩

end Go.Proofs.YtkemoffagdilgaaGreatDoor
