import Derived.Test.YtepjnkmmielamaaDoorW22
namespace Go.Proofs.YtepjnkmmielamaaDoor
open Go.RowKit

set_option maxRecDepth 100000 in
set_option maxHeartbeats 4000000 in
theorem blocks_core (c h x0 x1 x2 x3 x4 x5 x6 x7 s n e0 be d : Int) (w : World) (t1 : Bool) (hw : Laid w)
    (ht : (d != 0) = t1)
    (hsum : ∀ W, Calls Tryd.prog 21 #[.agg #[.int .i64 c, .int .i64 h, .int .i64 x0, .int .i64 x1, .int .i64 x2, .int .i64 x3, .int .i64 x4, .int .i64 x5, .int .i64 x6, .int .i64 x7, .int .i64 s]] W fun e w' => e = .returned (.tuple #[.int .i64 n, .int .i64 e0]) ∧ Below W.heap.size W w')
    (hcb : ∀ W, Calls Tryd.prog 22 #[.agg #[.int .i64 c, .int .i64 h, .int .i64 x0, .int .i64 x1, .int .i64 x2, .int .i64 x3, .int .i64 x4, .int .i64 x5, .int .i64 x6, .int .i64 x7, .int .i64 s]] W fun e w' => e = .returned (.int .i64 be) ∧ Below W.heap.size W w')
    (hbe : ∀ W, Calls Tryd.prog 23 #[.agg #[.int .i64 c, .int .i64 h, .int .i64 x0, .int .i64 x1, .int .i64 x2, .int .i64 x3, .int .i64 x4, .int .i64 x5, .int .i64 x6, .int .i64 x7, .int .i64 s]] W fun e w' => e = .returned (.int .i64 be) ∧ Below W.heap.size W w')
    (hce : ∀ W, Calls Tryd.prog 24 #[.agg #[.int .i64 c, .int .i64 h, .int .i64 x0, .int .i64 x1, .int .i64 x2, .int .i64 x3, .int .i64 x4, .int .i64 x5, .int .i64 x6, .int .i64 x7, .int .i64 s]] W fun e w' => e = .returned (.int .i64 d) ∧ Below W.heap.size W w')
    (h1 : t1 = true → e0 = d ∧ n = 0)
    (h2 : t1 = false → e0 = 0 ∧ ∀ W, Calls Tryd.prog 25 #[.agg #[.int .i64 c, .int .i64 h, .int .i64 x0, .int .i64 x1, .int .i64 x2, .int .i64 x3, .int .i64 x4, .int .i64 x5, .int .i64 x6, .int .i64 x7, .int .i64 s]] W fun e w' => e = .returned (.int .i64 n) ∧ Below W.heap.size W w') :
    Calls Tryd.prog 4 #[.agg #[.int .i64 c, .int .i64 h, .int .i64 x0, .int .i64 x1, .int .i64 x2, .int .i64 x3, .int .i64 x4, .int .i64 x5, .int .i64 x6, .int .i64 x7, .int .i64 s]] w fun e w' => e = .returned (.bool true) ∧ Below w.heap.size w w' := by
  have HW := Lib.hid hw
  have CS := Lib.hid hsum
  have CB := Lib.hid hcb
  have CR := Lib.hid hbe
  have CE := Lib.hid hce
  have H1 := Lib.hid h1
  have H2 := Lib.hid h2
  clear hw hsum hcb hbe hce h1 h2
  have B0 : Hid (Bk (w.alloc (.cells #[.int .i64 c, .int .i64 h, .int .i64 x0, .int .i64 x1, .int .i64 x2, .int .i64 x3, .int .i64 x4, .int .i64 x5, .int .i64 x6, .int .i64 x7, .int .i64 s] 37)) w.heap.size 37 #[.int .i64 c, .int .i64 h, .int .i64 x0, .int .i64 x1, .int .i64 x2, .int .i64 x3, .int .i64 x4, .int .i64 x5, .int .i64 x6, .int .i64 x7, .int .i64 s]) := Bk.new _ _ _
  have l0 : Hid (Below w.heap.size w (w.alloc (.cells #[.int .i64 c, .int .i64 h, .int .i64 x0, .int .i64 x1, .int .i64 x2, .int .i64 x3, .int .i64 x4, .int .i64 x5, .int .i64 x6, .int .i64 x7, .int .i64 s] 37))) := (Below.refl _ _).alloc (Nat.le_refl _) _
  go_enter Tryd.func4, Tryd.ntmps4
  go_wp2_with fail
  refine (awake_any _ (HW.out.later l0.out)).mono ?_
  rintro e w2 ⟨rfl, hb2⟩
  have B3 := B0.out.below hb2 (by simp)
  have l2 : Hid (Below w.heap.size w w2) := l0.out.trans (hb2.mono (by simp))
  have HB2 := Lib.hid B3
  have c0 := B3.cell 0
  have c1 := B3.cell 1
  have c2 := B3.cell 2
  have c3 := B3.cell 3
  have c4 := B3.cell 4
  have c5 := B3.cell 5
  have c6 := B3.cell 6
  have c7 := B3.cell 7
  have c8 := B3.cell 8
  have c9 := B3.cell 9
  have c10 := B3.cell 10
  simp at c0 c1 c2 c3 c4 c5 c6 c7 c8 c9 c10
  clear hb2 l0 B0 B3
  go_wp2_with fail
  refine (CS.out _).mono ?_
  rintro e w3 ⟨rfl, hb3⟩
  have B3 := HB2.out.below hb3 HB2.out.lt
  have l3 : Hid (Below w.heap.size w w3) := l2.out.trans (hb3.mono l2.out.size)
  clear c0 c1 c2 c3 c4 c5 c6 c7 c8 c9 c10
  have c0 := B3.cell 0
  have c1 := B3.cell 1
  have c2 := B3.cell 2
  have c3 := B3.cell 3
  have c4 := B3.cell 4
  have c5 := B3.cell 5
  have c6 := B3.cell 6
  have c7 := B3.cell 7
  have c8 := B3.cell 8
  have c9 := B3.cell 9
  have c10 := B3.cell 10
  simp at c0 c1 c2 c3 c4 c5 c6 c7 c8 c9 c10
  have z3 : w.heap.size < w3.heap.size := B3.lt
  have HB3 := Lib.hid B3
  clear hb3 l2 HB2 B3
  go_wp2_with fail
  go_region_held3 (fun w' => w'.cell? ⟨w.heap.size, 0, none⟩ = some (.int .i64 c) ∧ w'.cell? ⟨w.heap.size, 1, none⟩ = some (.int .i64 h) ∧ w'.cell? ⟨w.heap.size, 2, none⟩ = some (.int .i64 x0) ∧ w'.cell? ⟨w.heap.size, 3, none⟩ = some (.int .i64 x1) ∧ w'.cell? ⟨w.heap.size, 4, none⟩ = some (.int .i64 x2) ∧ w'.cell? ⟨w.heap.size, 5, none⟩ = some (.int .i64 x3) ∧ w'.cell? ⟨w.heap.size, 6, none⟩ = some (.int .i64 x4) ∧ w'.cell? ⟨w.heap.size, 7, none⟩ = some (.int .i64 x5) ∧ w'.cell? ⟨w.heap.size, 8, none⟩ = some (.int .i64 x6) ∧ w'.cell? ⟨w.heap.size, 9, none⟩ = some (.int .i64 x7) ∧ w'.cell? ⟨w.heap.size, 10, none⟩ = some (.int .i64 s) ∧ w.heap.size < w'.heap.size)
    ((go_split_ands; refine ⟨?_, ?_, ?_, ?_, ?_, ?_, ?_, ?_, ?_, ?_, ?_, ?_⟩ <;> first | assumption | (rw [hbb.cell (by first | assumption | simp)]; assumption) | (rw [hba.cell (by first | assumption | simpa using z3)]; first | assumption | (simp [go_sem]; done)) | exact Nat.lt_of_lt_of_le (by first | assumption | simp) hbb.size | exact Nat.lt_of_lt_of_le (by first | assumption | simpa using z3) hba.size | (go_keep; done) | (simp; omega)))
    (first
      | (go_at_call 22; refine (CB.out _).mono ?_; rintro e w' ⟨rfl, hba⟩)
      | (go_at_call 23; refine (CR.out _).mono ?_; rintro e w' ⟨rfl, hbb⟩))
  have B4 := ((HB3.out.drew).below hba (by simpa using z3)).below hbb (Nat.lt_of_lt_of_le z3 (by simpa using hba.size))
  have l4 : Hid (Below w.heap.size w w') := ((l3.out.drew).trans (hba.mono (by simp; omega))).trans (hbb.mono (by have := hba.size; simp at this; omega))
  clear c0 c1 c2 c3 c4 c5 c6 c7 c8 c9 c10
  have c0 := B4.cell 0
  have c1 := B4.cell 1
  have c2 := B4.cell 2
  have c3 := B4.cell 3
  have c4 := B4.cell 4
  have c5 := B4.cell 5
  have c6 := B4.cell 6
  have c7 := B4.cell 7
  have c8 := B4.cell 8
  have c9 := B4.cell 9
  have c10 := B4.cell 10
  simp at c0 c1 c2 c3 c4 c5 c6 c7 c8 c9 c10
  have HB4 := Lib.hid B4
  clear B4 hba hbb l3 HB3 z3
  go_wp2_with fail
  refine (CE.out _).mono ?_
  rintro e w5 ⟨rfl, hb5⟩
  have B5 := HB4.out.below hb5 HB4.out.lt
  have l5 : Hid (Below w.heap.size w w5) := l4.out.trans (hb5.mono l4.out.size)
  clear c0 c1 c2 c3 c4 c5 c6 c7 c8 c9 c10 hb5 l4
  cases t1
  · obtain ⟨he0, C6⟩ := H2.out rfl
    subst he0
    have HC6 := Lib.hid C6
    clear C6
    have c0 := B5.cell 0
    have c1 := B5.cell 1
    have c2 := B5.cell 2
    have c3 := B5.cell 3
    have c4 := B5.cell 4
    have c5 := B5.cell 5
    have c6 := B5.cell 6
    have c7 := B5.cell 7
    have c8 := B5.cell 8
    have c9 := B5.cell 9
    have c10 := B5.cell 10
    simp at c0 c1 c2 c3 c4 c5 c6 c7 c8 c9 c10
    clear B5
    go_wp2_with fail
    refine (HC6.out _).mono ?_
    rintro e w6 ⟨rfl, hb6⟩
    have l6 : Hid (Below w.heap.size w w6) := l5.out.trans (hb6.mono l5.out.size)
    clear hb6 c0 c1 c2 c3 c4 c5 c6 c7 c8 c9 c10
    go_wp2
    go_ret
    exact ⟨rfl, l6.out⟩
  · obtain ⟨he0, hn0⟩ := H1.out rfl
    subst he0 hn0
    clear B5
    go_wp2
    go_ret
    exact ⟨rfl, l5.out⟩

theorem blocks_walk (c h x0 x1 x2 x3 x4 x5 x6 x7 s : Int) (w : World) (hw : Laid w) :
    Calls Tryd.prog 4 #[.agg #[.int .i64 c, .int .i64 h, .int .i64 x0, .int .i64 x1, .int .i64 x2, .int .i64 x3, .int .i64 x4, .int .i64 x5, .int .i64 x6, .int .i64 x7, .int .i64 s]] w fun e w' => e = .returned (.bool true) ∧ Below w.heap.size w w' := by
  by_cases he : contE c h [x0, x1, x2, x3, x4, x5, x6, x7] = 0
  · obtain ⟨g1, g2, g3⟩ := contE_ok he
    exact blocks_core c h x0 x1 x2 x3 x4 x5 x6 x7 s (sumT c h [x0, x1, x2, x3, x4, x5, x6, x7]) 0 (blockE c h [x0, x1, x2, x3, x4, x5, x6, x7] s) 0 w false hw rfl (fun W => sum_ok c h x0 x1 x2 x3 x4 x5 x6 x7 s W he) (fun W => checkBlock_any c h x0 x1 x2 x3 x4 x5 x6 x7 s W) (fun W => refBlockErr_any c h x0 x1 x2 x3 x4 x5 x6 x7 s W)
      (fun W => by have := contentErr_any c h x0 x1 x2 x3 x4 x5 x6 x7 s W; rw [he] at this; exact this) (fun h => by cases h) (fun _ => ⟨rfl, fun W => refSumOf_ok c h x0 x1 x2 x3 x4 x5 x6 x7 s W g1 g2 g3⟩)
  · exact blocks_core c h x0 x1 x2 x3 x4 x5 x6 x7 s 0 2 (blockE c h [x0, x1, x2, x3, x4, x5, x6, x7] s) 2 w true hw rfl (fun W => sum_err c h x0 x1 x2 x3 x4 x5 x6 x7 s W he) (fun W => checkBlock_any c h x0 x1 x2 x3 x4 x5 x6 x7 s W) (fun W => refBlockErr_any c h x0 x1 x2 x3 x4 x5 x6 x7 s W)
      (fun W => by have := contentErr_any c h x0 x1 x2 x3 x4 x5 x6 x7 s W; rw [contE_err he] at this; exact this) (fun _ => ⟨rfl, rfl⟩) (fun h => by cases h)

end Go.Proofs.YtepjnkmmielamaaDoor
