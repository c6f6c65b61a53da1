import Derived.Test.YtkemoffagdilgaaGreatDoorW15
namespace Go.Proofs.YtkemoffagdilgaaGreatDoor
open Go.RowKit

def SomeBool (e : Ending) : Prop := ∃ b : Bool, e = .returned (.bool b)

set_option maxRecDepth 100000 in
set_option maxHeartbeats 1000000 in
theorem isTorn_some (c h x0 x1 x2 x3 x4 x5 x6 x7 s : Int) (w : World) :
    Calls Tryz.prog 47 #[.agg #[.int .i64 c, .int .i64 h, .int .i64 x0, .int .i64 x1, .int .i64 x2, .int .i64 x3, .int .i64 x4, .int .i64 x5, .int .i64 x6, .int .i64 x7, .int .i64 s]] w fun e w' => SomeBool e ∧ Below w.heap.size w w' := by
  have C2 := Lib.hid (sumOf_some c h x0 x1 x2 x3 x4 x5 x6 x7 s)
  go_enter Tryz.func47, Tryz.ntmps47
  go_wp2_with fail
  go_region_held3 (fun w' => w'.cell? ⟨w.heap.size, 0, none⟩ = some (.int .i64 c) ∧ w'.cell? ⟨w.heap.size, 1, none⟩ = some (.int .i64 h) ∧ w'.cell? ⟨w.heap.size, 2, none⟩ = some (.int .i64 x0) ∧ w'.cell? ⟨w.heap.size, 3, none⟩ = some (.int .i64 x1) ∧ w'.cell? ⟨w.heap.size, 4, none⟩ = some (.int .i64 x2) ∧ w'.cell? ⟨w.heap.size, 5, none⟩ = some (.int .i64 x3) ∧ w'.cell? ⟨w.heap.size, 6, none⟩ = some (.int .i64 x4) ∧ w'.cell? ⟨w.heap.size, 7, none⟩ = some (.int .i64 x5) ∧ w'.cell? ⟨w.heap.size, 8, none⟩ = some (.int .i64 x6) ∧ w'.cell? ⟨w.heap.size, 9, none⟩ = some (.int .i64 x7) ∧ w'.cell? ⟨w.heap.size, 10, none⟩ = some (.int .i64 s))
    (first | go_keep | (go_split_ands; refine ⟨?_, ?_, ?_, ?_, ?_, ?_, ?_, ?_, ?_, ?_, ?_⟩ <;> (rw [hb.cell (by simp)]; simp [go_sem])))
    (first
      | (go_at_call 39; refine (C2.out _).mono ?_; rintro e w' ⟨⟨n, rfl⟩, hb⟩))
  go_wp2
  go_ret
  exact ⟨⟨_, rfl⟩, (((Below.refl _ _).alloc (Nat.le_refl _) _).drew).trans (hb.mono (by simp))⟩

def blockE (c h : Int) (xs : List Int) (s : Int) : Int := if contE c h xs = 0 then (if s = sumT c h xs then 0 else 20) else 2

set_option maxRecDepth 100000 in
set_option maxHeartbeats 2000000 in
theorem checkBlock_core (c h x0 x1 x2 x3 x4 x5 x6 x7 s r1 : Int) (w : World) (P : Bool → Prop) (h1 : ∀ W, Calls Tryz.prog 38 #[.agg #[.int .i64 c, .int .i64 h, .int .i64 x0, .int .i64 x1, .int .i64 x2, .int .i64 x3, .int .i64 x4, .int .i64 x5, .int .i64 x6, .int .i64 x7, .int .i64 s]] W fun e w' => e = .returned (.int .i64 r1) ∧ Below W.heap.size W w')
    (h2 : ∀ W, Calls Tryz.prog 47 #[.agg #[.int .i64 c, .int .i64 h, .int .i64 x0, .int .i64 x1, .int .i64 x2, .int .i64 x3, .int .i64 x4, .int .i64 x5, .int .i64 x6, .int .i64 x7, .int .i64 s]] W fun e w' => (∃ b, P b ∧ e = .returned (.bool b)) ∧ Below W.heap.size W w') :
    Calls Tryz.prog 19 #[.agg #[.int .i64 c, .int .i64 h, .int .i64 x0, .int .i64 x1, .int .i64 x2, .int .i64 x3, .int .i64 x4, .int .i64 x5, .int .i64 x6, .int .i64 x7, .int .i64 s]] w fun e w' => (∃ b, P b ∧ e = .returned (.int .i64 (firstE [r1, whenE b 20]))) ∧ Below w.heap.size w w' := by
  have C1 := Lib.hid h1
  have C2 := Lib.hid h2
  clear h1 h2
  have B0 : Hid (Bk (w.alloc (.cells #[.int .i64 c, .int .i64 h, .int .i64 x0, .int .i64 x1, .int .i64 x2, .int .i64 x3, .int .i64 x4, .int .i64 x5, .int .i64 x6, .int .i64 x7, .int .i64 s] 24)) w.heap.size 24 #[.int .i64 c, .int .i64 h, .int .i64 x0, .int .i64 x1, .int .i64 x2, .int .i64 x3, .int .i64 x4, .int .i64 x5, .int .i64 x6, .int .i64 x7, .int .i64 s]) := Bk.new _ _ _
  go_enter Tryz.func19, Tryz.ntmps19
  go_wp2_with fail
  go_region_held3 (fun w' => w'.cell? ⟨w.heap.size, 0, none⟩ = some (.int .i64 c) ∧ w'.cell? ⟨w.heap.size, 1, none⟩ = some (.int .i64 h) ∧ w'.cell? ⟨w.heap.size, 2, none⟩ = some (.int .i64 x0) ∧ w'.cell? ⟨w.heap.size, 3, none⟩ = some (.int .i64 x1) ∧ w'.cell? ⟨w.heap.size, 4, none⟩ = some (.int .i64 x2) ∧ w'.cell? ⟨w.heap.size, 5, none⟩ = some (.int .i64 x3) ∧ w'.cell? ⟨w.heap.size, 6, none⟩ = some (.int .i64 x4) ∧ w'.cell? ⟨w.heap.size, 7, none⟩ = some (.int .i64 x5) ∧ w'.cell? ⟨w.heap.size, 8, none⟩ = some (.int .i64 x6) ∧ w'.cell? ⟨w.heap.size, 9, none⟩ = some (.int .i64 x7) ∧ w'.cell? ⟨w.heap.size, 10, none⟩ = some (.int .i64 s) ∧ w.heap.size < w'.heap.size)
    ((go_split_ands; refine ⟨?_, ?_, ?_, ?_, ?_, ?_, ?_, ?_, ?_, ?_, ?_, ?_⟩ <;> first | assumption | (rw [hb2.cell (by first | assumption | simp)]; assumption) | (rw [hb.cell (by first | assumption | simp)]; first | assumption | (simp [go_sem]; done)) | exact Nat.lt_of_lt_of_le (by first | assumption | simp) hb2.size | exact Nat.lt_of_lt_of_le (by first | assumption | simp) hb.size | (go_keep; done) | (simp; omega)))
    (first
      | (go_at_call 38; refine (C1.out _).mono ?_; rintro e w' ⟨rfl, hb⟩)
      | (go_at_call 47; refine (C2.out _).mono ?_; rintro e w' ⟨⟨b, hPb, rfl⟩, hb2⟩)
      | (go_at_call 28; refine (when_any _ _ _).mono ?_; rintro e w' ⟨rfl, rfl⟩)
      | (go_at_call 26; refine (first2 _ _ _).mono ?_; rintro e w' ⟨rfl, rfl⟩))
  go_wp2
  go_ret
  have z1 := hb.size
  simp at z1
  refine ⟨⟨b, hPb, rfl⟩, ?_⟩
  have l1 := (((Below.refl w.heap.size w).alloc (Nat.le_refl _) _).drew).trans (hb.mono (by simp))
  have l2 := l1.trans (hb2.mono (by omega))
  exact l2.alloc (by have := hb2.size; omega) _

theorem checkBlock_any (c h x0 x1 x2 x3 x4 x5 x6 x7 s : Int) (w : World) :
    Calls Tryz.prog 19 #[.agg #[.int .i64 c, .int .i64 h, .int .i64 x0, .int .i64 x1, .int .i64 x2, .int .i64 x3, .int .i64 x4, .int .i64 x5, .int .i64 x6, .int .i64 x7, .int .i64 s]] w fun e w' => e = .returned (.int .i64 (blockE c h [x0, x1, x2, x3, x4, x5, x6, x7] s)) ∧ Below w.heap.size w w' := by
  by_cases he : contE c h [x0, x1, x2, x3, x4, x5, x6, x7] = 0
  · obtain ⟨h1, h2, h3⟩ := contE_ok he
    refine (checkBlock_core c h x0 x1 x2 x3 x4 x5 x6 x7 s 0 w (fun b => b = (s != sumT c h [x0, x1, x2, x3, x4, x5, x6, x7])) (fun W => by have := checkContents_any c h x0 x1 x2 x3 x4 x5 x6 x7 s W; rw [he] at this; exact this)
      (fun W => (isTorn_core c h x0 x1 x2 x3 x4 x5 x6 x7 s _ W (fun W => sumOf_ok c h x0 x1 x2 x3 x4 x5 x6 x7 s W h1 h2 h3)).mono fun e w' ⟨a, b⟩ => ⟨⟨_, rfl, a⟩, b⟩)).mono ?_
    rintro e w' ⟨⟨b, rfl, rfl⟩, hb⟩
    refine ⟨?_, hb⟩
    unfold blockE
    rw [if_pos he]
    by_cases g : s = sumT c h [x0, x1, x2, x3, x4, x5, x6, x7]
    · rw [if_pos g]
      have : (s != sumT c h [x0, x1, x2, x3, x4, x5, x6, x7]) = false := by simpa using g
      rw [this]; rfl
    · rw [if_neg g]
      have : (s != sumT c h [x0, x1, x2, x3, x4, x5, x6, x7]) = true := by simpa using g
      rw [this]; rfl
  · have he2 := contE_err he
    refine (checkBlock_core c h x0 x1 x2 x3 x4 x5 x6 x7 s 2 w (fun _ => True) (fun W => by have := checkContents_any c h x0 x1 x2 x3 x4 x5 x6 x7 s W; rw [he2] at this; exact this)
      (fun W => (isTorn_some c h x0 x1 x2 x3 x4 x5 x6 x7 s W).mono fun e w' ⟨⟨b, a⟩, l⟩ => ⟨⟨b, trivial, a⟩, l⟩)).mono ?_
    rintro e w' ⟨⟨b, _, rfl⟩, hb⟩
    refine ⟨?_, hb⟩
    unfold blockE
    rw [if_neg he]
    rfl

set_option maxRecDepth 100000 in
set_option maxHeartbeats 1000000 in
theorem refBlockErr_core (c h x0 x1 x2 x3 x4 x5 x6 x7 s n : Int) (w : World) (t : Bool) (ht : (s != n) = t)
    (h1 : ∀ W, Calls Tryz.prog 24 #[.agg #[.int .i64 c, .int .i64 h, .int .i64 x0, .int .i64 x1, .int .i64 x2, .int .i64 x3, .int .i64 x4, .int .i64 x5, .int .i64 x6, .int .i64 x7, .int .i64 s]] W fun e w' => e = .returned (.int .i64 0) ∧ Below W.heap.size W w')
    (h2 : ∀ W, Calls Tryz.prog 25 #[.agg #[.int .i64 c, .int .i64 h, .int .i64 x0, .int .i64 x1, .int .i64 x2, .int .i64 x3, .int .i64 x4, .int .i64 x5, .int .i64 x6, .int .i64 x7, .int .i64 s]] W fun e w' => e = .returned (.int .i64 n) ∧ Below W.heap.size W w') :
    Calls Tryz.prog 9 #[.agg #[.int .i64 c, .int .i64 h, .int .i64 x0, .int .i64 x1, .int .i64 x2, .int .i64 x3, .int .i64 x4, .int .i64 x5, .int .i64 x6, .int .i64 x7, .int .i64 s]] w fun e w' => e = .returned (.int .i64 (if t then 20 else 0)) ∧ Below w.heap.size w w' := by
  have C1 := Lib.hid h1
  have C2 := Lib.hid h2
  clear h1 h2
  have B0 : Hid (Bk (w.alloc (.cells #[.int .i64 c, .int .i64 h, .int .i64 x0, .int .i64 x1, .int .i64 x2, .int .i64 x3, .int .i64 x4, .int .i64 x5, .int .i64 x6, .int .i64 x7, .int .i64 s] 24)) w.heap.size 24 #[.int .i64 c, .int .i64 h, .int .i64 x0, .int .i64 x1, .int .i64 x2, .int .i64 x3, .int .i64 x4, .int .i64 x5, .int .i64 x6, .int .i64 x7, .int .i64 s]) := Bk.new _ _ _
  cases t
  all_goals
    go_enter Tryz.func9, Tryz.ntmps9
    go_wp2_with fail
    refine (C1.out _).mono ?_
    rintro e w2 ⟨rfl, hb2⟩
    have B2 := B0.out.below hb2 (by simp)
    have l2 : Hid (Below w.heap.size w w2) := ((Below.refl _ _).alloc (Nat.le_refl _) _).trans (hb2.mono (by simp))
    have z2 : w.heap.size < w2.heap.size := B2.lt
    have c0 := B2.cell 0
    have c1 := B2.cell 1
    have c2 := B2.cell 2
    have c3 := B2.cell 3
    have c4 := B2.cell 4
    have c5 := B2.cell 5
    have c6 := B2.cell 6
    have c7 := B2.cell 7
    have c8 := B2.cell 8
    have c9 := B2.cell 9
    have c10 := B2.cell 10
    simp at c0 c1 c2 c3 c4 c5 c6 c7 c8 c9 c10
    clear hb2 B2
    go_wp2_with fail
    go_region_held3 (fun w' => w'.cell? ⟨w.heap.size, 0, none⟩ = some (.int .i64 c) ∧ w'.cell? ⟨w.heap.size, 1, none⟩ = some (.int .i64 h) ∧ w'.cell? ⟨w.heap.size, 2, none⟩ = some (.int .i64 x0) ∧ w'.cell? ⟨w.heap.size, 3, none⟩ = some (.int .i64 x1) ∧ w'.cell? ⟨w.heap.size, 4, none⟩ = some (.int .i64 x2) ∧ w'.cell? ⟨w.heap.size, 5, none⟩ = some (.int .i64 x3) ∧ w'.cell? ⟨w.heap.size, 6, none⟩ = some (.int .i64 x4) ∧ w'.cell? ⟨w.heap.size, 7, none⟩ = some (.int .i64 x5) ∧ w'.cell? ⟨w.heap.size, 8, none⟩ = some (.int .i64 x6) ∧ w'.cell? ⟨w.heap.size, 9, none⟩ = some (.int .i64 x7) ∧ w'.cell? ⟨w.heap.size, 10, none⟩ = some (.int .i64 s))
      ((go_split_ands; refine ⟨?_, ?_, ?_, ?_, ?_, ?_, ?_, ?_, ?_, ?_, ?_⟩ <;> first | assumption | (rw [hb.cell (by first | assumption | simpa using z2)]; assumption) | (go_keep; done)))
      (first
        | (go_at_call 25; refine (C2.out _).mono ?_; rintro e w' ⟨rfl, hb⟩))
    go_wp2
    go_ret
    exact ⟨rfl, (l2.out.drew).trans (hb.mono (by simp; omega))⟩

theorem refBlockErr_ok (c h x0 x1 x2 x3 x4 x5 x6 x7 s : Int) (w : World) (he : contE c h [x0, x1, x2, x3, x4, x5, x6, x7] = 0) :
    Calls Tryz.prog 9 #[.agg #[.int .i64 c, .int .i64 h, .int .i64 x0, .int .i64 x1, .int .i64 x2, .int .i64 x3, .int .i64 x4, .int .i64 x5, .int .i64 x6, .int .i64 x7, .int .i64 s]] w fun e w' => e = .returned (.int .i64 (blockE c h [x0, x1, x2, x3, x4, x5, x6, x7] s)) ∧ Below w.heap.size w w' := by
  obtain ⟨h1, h2, h3⟩ := contE_ok he
  have e : blockE c h [x0, x1, x2, x3, x4, x5, x6, x7] s = if (s != sumT c h [x0, x1, x2, x3, x4, x5, x6, x7]) then 20 else 0 := by
    rw [blockE, if_pos he]
    by_cases g : s = sumT c h [x0, x1, x2, x3, x4, x5, x6, x7] <;> simp [g]
  rw [e]
  exact refBlockErr_core c h x0 x1 x2 x3 x4 x5 x6 x7 s _ w _ rfl (fun W => by have := contentErr_any c h x0 x1 x2 x3 x4 x5 x6 x7 s W; rw [he] at this; exact this) (fun W => refSumOf_ok c h x0 x1 x2 x3 x4 x5 x6 x7 s W h1 h2 h3)

theorem refBlockErr_err (c h x0 x1 x2 x3 x4 x5 x6 x7 s : Int) (w : World) (he : contE c h [x0, x1, x2, x3, x4, x5, x6, x7] ≠ 0) :
    Calls Tryz.prog 9 #[.agg #[.int .i64 c, .int .i64 h, .int .i64 x0, .int .i64 x1, .int .i64 x2, .int .i64 x3, .int .i64 x4, .int .i64 x5, .int .i64 x6, .int .i64 x7, .int .i64 s]] w fun e w' => e = .returned (.int .i64 (blockE c h [x0, x1, x2, x3, x4, x5, x6, x7] s)) ∧ Below w.heap.size w w' := by
  have he2 := contE_err he
  have C1 : Hid (∀ W, Calls Tryz.prog 24 #[.agg #[.int .i64 c, .int .i64 h, .int .i64 x0, .int .i64 x1, .int .i64 x2, .int .i64 x3, .int .i64 x4, .int .i64 x5, .int .i64 x6, .int .i64 x7, .int .i64 s]] W fun e w' => e = .returned (.int .i64 2) ∧ Below W.heap.size W w') := fun W => by rw [← he2]; exact contentErr_any c h x0 x1 x2 x3 x4 x5 x6 x7 s W
  have HE : Hid (blockE c h [x0, x1, x2, x3, x4, x5, x6, x7] s = 2) := by show blockE _ _ _ _ = _; rw [blockE, if_neg he]
  clear he he2
  go_enter Tryz.func9, Tryz.ntmps9
  go_wp2_with fail
  refine (C1.out _).mono ?_
  rintro e w2 ⟨rfl, hb2⟩
  have l2 : Hid (Below w.heap.size w w2) := ((Below.refl _ _).alloc (Nat.le_refl _) _).trans (hb2.mono (by simp))
  clear hb2
  go_wp2
  go_ret
  exact ⟨by rw [HE.out]; rfl, l2.out⟩

theorem refBlockErr_any (c h x0 x1 x2 x3 x4 x5 x6 x7 s : Int) (w : World) :
    Calls Tryz.prog 9 #[.agg #[.int .i64 c, .int .i64 h, .int .i64 x0, .int .i64 x1, .int .i64 x2, .int .i64 x3, .int .i64 x4, .int .i64 x5, .int .i64 x6, .int .i64 x7, .int .i64 s]] w fun e w' => e = .returned (.int .i64 (blockE c h [x0, x1, x2, x3, x4, x5, x6, x7] s)) ∧ Below w.heap.size w w' := by
  by_cases he : contE c h [x0, x1, x2, x3, x4, x5, x6, x7] = 0
  · exact refBlockErr_ok c h x0 x1 x2 x3 x4 x5 x6 x7 s w he
  · exact refBlockErr_err c h x0 x1 x2 x3 x4 x5 x6 x7 s w he

end Go.Proofs.YtkemoffagdilgaaGreatDoor
