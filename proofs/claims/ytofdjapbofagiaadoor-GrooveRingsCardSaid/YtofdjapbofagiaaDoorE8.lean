import Derived.Test.YtofdjapbofagiaaDoorGF
import Derived.Test.YtofdjapbofagiaaDoorGJ
import Derived.Test.YtofdjapbofagiaaDoorA2
namespace Go.Proofs.YtofdjapbofagiaaDoor
open Go.RowKit

set_option maxRecDepth 100000 in
set_option maxHeartbeats 16000000 in
theorem rings_wide (A : Option Addr) (n c : Nat) (rows : List (List Int)) (cx cy lo hi st rd : Int) (w : World) (hl : LaidSides w) (hr : RdGo w A n rows) (hgb : gridB 24 24 rows = false) :
    Calls Tryd.prog 3 #[.agg #[.slice A n c], .agg #[.int .i64 cx, .int .i64 cy, .int .i64 lo, .int .i64 hi, .int .i64 st, .int .i64 rd]] w fun e w' => e = .returned (.bool true) ∧ Below w.heap.size w w' := by
  have hb0 : Below w.heap.size w ((w.alloc (.cells #[.slice A n c] 24)).alloc (.cells #[.int .i64 cx, .int .i64 cy, .int .i64 lo, .int .i64 hi, .int .i64 st, .int .i64 rd] 32)) := ((Below.refl _ _).alloc (Nat.le_refl _) _).alloc (by simp) _
  have HL := Lib.hid (hl.later hb0)
  have HI0 : Hid (Bk ((w.alloc (.cells #[.slice A n c] 24)).alloc (.cells #[.int .i64 cx, .int .i64 cy, .int .i64 lo, .int .i64 hi, .int .i64 st, .int .i64 rd] 32)) w.heap.size 24 #[.slice A n c]) := (Bk.new w 24 #[.slice A n c]).alloc _
  have HV0 : Hid (Bk ((w.alloc (.cells #[.slice A n c] 24)).alloc (.cells #[.int .i64 cx, .int .i64 cy, .int .i64 lo, .int .i64 hi, .int .i64 st, .int .i64 rd] 32)) (w.heap.size + 1) 32 #[.int .i64 cx, .int .i64 cy, .int .i64 lo, .int .i64 hi, .int .i64 st, .int .i64 rd]) := by
    have := Bk.new (w.alloc (.cells #[.slice A n c] 24)) 32 #[.int .i64 cx, .int .i64 cy, .int .i64 lo, .int .i64 hi, .int .i64 st, .int .i64 rd]
    show Bk _ _ _ _
    simpa using this
  have HRO := Lib.hid (hr.below hb0)
  have low0 := Lib.hid hb0
  have CIM : Hid (∀ W, RdGo W A n rows → Calls Tryd.prog 9 #[.agg #[.slice A n c]] W fun e w' => e = .returned (.bool false) ∧ Below W.heap.size W w') := fun W h => by rw [← hgb]; exact image_any A n c rows W h
  clear hl hr hb0 hgb
  go_enter Tryd.func3, Tryd.ntmps3
  go_wp2_with fail
  refine (awake_any _ HL.out).mono ?_
  rintro e w1 ⟨rfl, hb1⟩
  have Fi1 := Lib.hid (HI0.out.later hb1)
  have Fv1 := Lib.hid (HV0.out.later hb1)
  have Fl1 := Lib.hid (HL.out.later hb1)
  have Fo1 := Lib.hid (HRO.out.below hb1)
  have low1 := Lib.hid (low0.out.trans (hb1.mono low0.out.size))
  clear HI0 HV0 HL HRO low0 hb1
  have i0 : w1.cell? ⟨w.heap.size, 0, none⟩ = some (.slice A n c) := by rw [Fi1.out.cell]; rfl
  have v0 : w1.cell? ⟨w.heap.size + 1, 0, none⟩ = some (.int .i64 cx) := by rw [Fv1.out.cell]; rfl
  have v1 : w1.cell? ⟨w.heap.size + 1, 1, none⟩ = some (.int .i64 cy) := by rw [Fv1.out.cell]; rfl
  have v2 : w1.cell? ⟨w.heap.size + 1, 2, none⟩ = some (.int .i64 lo) := by rw [Fv1.out.cell]; rfl
  have v3 : w1.cell? ⟨w.heap.size + 1, 3, none⟩ = some (.int .i64 hi) := by rw [Fv1.out.cell]; rfl
  have v4 : w1.cell? ⟨w.heap.size + 1, 4, none⟩ = some (.int .i64 st) := by rw [Fv1.out.cell]; rfl
  have v5 : w1.cell? ⟨w.heap.size + 1, 5, none⟩ = some (.int .i64 rd) := by rw [Fv1.out.cell]; rfl
  go_wp2_with fail
  refine (CIM.out _ Fo1.out).mono ?_
  rintro e w2 ⟨rfl, hb2⟩
  clear i0 v0 v1 v2 v3 v4 v5
  have Fi2 := Lib.hid (Fi1.out.later hb2)
  have Fv2 := Lib.hid (Fv1.out.later hb2)
  have Fl2 := Lib.hid (Fl1.out.later hb2)
  have Fo2 := Lib.hid (Fo1.out.below hb2)
  have low2 := Lib.hid (low1.out.trans (hb2.mono low1.out.size))
  clear Fi1 Fv1 Fl1 Fo1 low1 hb2
  have i0 : w2.cell? ⟨w.heap.size, 0, none⟩ = some (.slice A n c) := by rw [Fi2.out.cell]; rfl
  have v0 : w2.cell? ⟨w.heap.size + 1, 0, none⟩ = some (.int .i64 cx) := by rw [Fv2.out.cell]; rfl
  have v1 : w2.cell? ⟨w.heap.size + 1, 1, none⟩ = some (.int .i64 cy) := by rw [Fv2.out.cell]; rfl
  have v2 : w2.cell? ⟨w.heap.size + 1, 2, none⟩ = some (.int .i64 lo) := by rw [Fv2.out.cell]; rfl
  have v3 : w2.cell? ⟨w.heap.size + 1, 3, none⟩ = some (.int .i64 hi) := by rw [Fv2.out.cell]; rfl
  have v4 : w2.cell? ⟨w.heap.size + 1, 4, none⟩ = some (.int .i64 st) := by rw [Fv2.out.cell]; rfl
  have v5 : w2.cell? ⟨w.heap.size + 1, 5, none⟩ = some (.int .i64 rd) := by rw [Fv2.out.cell]; rfl
  go_wp2
  go_ret
  exact ⟨rfl, low2.out⟩

set_option maxRecDepth 100000 in
set_option maxHeartbeats 16000000 in
theorem rings_err (A : Option Addr) (n c : Nat) (rows : List (List Int)) (cx cy lo hi st rd : Int) (w : World) (hl : LaidSides w) (hr : RdGo w A n rows) (hgb : gridB 24 24 rows = true) (hn26 : n ≤ 26) (hm203 : ∀ j, j < n → (rows.getD j []).length ≤ 203) (E : Int) (hgE : gridE 24 24 rows = E) (hE0 : E ≠ 0) :
    Calls Tryd.prog 3 #[.agg #[.slice A n c], .agg #[.int .i64 cx, .int .i64 cy, .int .i64 lo, .int .i64 hi, .int .i64 st, .int .i64 rd]] w fun e w' => e = .returned (.bool true) ∧ Below w.heap.size w w' := by
  have hb0 : Below w.heap.size w ((w.alloc (.cells #[.slice A n c] 24)).alloc (.cells #[.int .i64 cx, .int .i64 cy, .int .i64 lo, .int .i64 hi, .int .i64 st, .int .i64 rd] 32)) := ((Below.refl _ _).alloc (Nat.le_refl _) _).alloc (by simp) _
  have HL := Lib.hid (hl.later hb0)
  have HI0 : Hid (Bk ((w.alloc (.cells #[.slice A n c] 24)).alloc (.cells #[.int .i64 cx, .int .i64 cy, .int .i64 lo, .int .i64 hi, .int .i64 st, .int .i64 rd] 32)) w.heap.size 24 #[.slice A n c]) := (Bk.new w 24 #[.slice A n c]).alloc _
  have HV0 : Hid (Bk ((w.alloc (.cells #[.slice A n c] 24)).alloc (.cells #[.int .i64 cx, .int .i64 cy, .int .i64 lo, .int .i64 hi, .int .i64 st, .int .i64 rd] 32)) (w.heap.size + 1) 32 #[.int .i64 cx, .int .i64 cy, .int .i64 lo, .int .i64 hi, .int .i64 st, .int .i64 rd]) := by
    have := Bk.new (w.alloc (.cells #[.slice A n c] 24)) 32 #[.int .i64 cx, .int .i64 cy, .int .i64 lo, .int .i64 hi, .int .i64 st, .int .i64 rd]
    show Bk _ _ _ _
    simpa using this
  have HRO := Lib.hid (hr.below hb0)
  have low0 := Lib.hid hb0
  have CIM : Hid (∀ W, RdGo W A n rows → Calls Tryd.prog 9 #[.agg #[.slice A n c]] W fun e w' => e = .returned (.bool true) ∧ Below W.heap.size W w') := fun W h => by rw [← hgb]; exact image_any A n c rows W h
  have HRN := Lib.hid ((hr.full hm203).below hb0)
  have CCP : Hid (∀ W, RdGN W A n rows → Calls Tryd.prog 11 #[.agg #[.slice A n c]] W fun e w' => (∃ A' c', e = .returned (.agg #[.slice A' n c']) ∧ RdGN w' A' n rows) ∧ Below W.heap.size W w') := fun W h => copyImage_any A n c rows W h (by omega) hm203
  have CCK : Hid (∀ W A' c', RdGN W A' n rows → Calls Tryd.prog 10 #[.agg #[.slice A' n c']] W fun e w' => e = .returned (.int .i64 E) ∧ Below W.heap.size W w') := fun W A' c' h => by rw [← hgE]; exact checkImage_any A' n c' rows W h.toG (by omega)
  have CIE : Hid (∀ W, RdGN W A n rows → Calls Tryd.prog 14 #[.agg #[.slice A n c]] W fun e w' => e = .returned (.int .i64 E) ∧ Below W.heap.size W w') := fun W h => by rw [← hgE]; exact refImageErr_any A n c rows W h.toG (by omega)
  have CRI : Hid (∀ W A' c', LaidSides W → RdGN W A' n rows → Calls Tryd.prog 12 #[.agg #[.slice A' n c'], .agg #[.int .i64 cx, .int .i64 cy], .int .i64 rd] W fun e w' => (∃ A2 c2, e = .returned (.tuple #[.slice A2 0 c2, .int .i64 E]) ∧ RdI w' A2 0 []) ∧ Below W.heap.size W w') := fun W A' c' h1 h2 => by
    have h := RingOf_any A' n c' rows cx cy rd W h1 h2.toG (by omega)
    have e1 : ringE rows cx cy rd = E := by unfold ringE; rw [if_neg (by rw [hgE]; exact hE0), hgE]
    rw [ringX_err (by rw [e1]; exact hE0), e1] at h
    refine h.mono ?_
    rintro e w' ⟨⟨v, he, ho⟩, hb⟩
    obtain ⟨A2, c2, e2, h3, _⟩ := RdI.ofOwnN ho
    exact ⟨⟨A2, c2, by rw [he, e2]; rfl, h3⟩, hb⟩
  have CUN : Hid (∀ W A' c', LaidSides W → RdGN W A' n rows → Calls Tryd.prog 13 #[.agg #[.slice A' n c'], .agg #[.int .i64 cx, .int .i64 cy, .int .i64 lo, .int .i64 hi, .int .i64 st]] W fun e w' => (∃ A2 c2, e = .returned (.tuple #[.slice A2 0 c2, .int .i64 E]) ∧ RdGN w' A2 0 []) ∧ Below W.heap.size W w') := fun W A' c' _ h2 => un_img A' n c' rows cx cy lo hi st W h2.toG (by omega) E hgE hE0
  have hEb : (E != 0) = true := by simpa using hE0
  have hEE : (E == E) = true := by simp
  have hEn : (E != E) = false := bne_self_eq_false' _
  clear hl hr hb0 hgb hm203 hgE hE0
  go_enter Tryd.func3, Tryd.ntmps3
  go_wp2_with fail
  refine (awake_any _ HL.out).mono ?_
  rintro e w1 ⟨rfl, hb1⟩
  have Fi1 := Lib.hid (HI0.out.later hb1)
  have Fv1 := Lib.hid (HV0.out.later hb1)
  have Fl1 := Lib.hid (HL.out.later hb1)
  have Fo1 := Lib.hid (HRO.out.below hb1)
  have Fr1 := Lib.hid (HRN.out.below hb1)
  have low1 := Lib.hid (low0.out.trans (hb1.mono low0.out.size))
  clear HI0 HV0 HL HRO HRN low0 hb1
  have i0 : w1.cell? ⟨w.heap.size, 0, none⟩ = some (.slice A n c) := by rw [Fi1.out.cell]; rfl
  have v0 : w1.cell? ⟨w.heap.size + 1, 0, none⟩ = some (.int .i64 cx) := by rw [Fv1.out.cell]; rfl
  have v1 : w1.cell? ⟨w.heap.size + 1, 1, none⟩ = some (.int .i64 cy) := by rw [Fv1.out.cell]; rfl
  have v2 : w1.cell? ⟨w.heap.size + 1, 2, none⟩ = some (.int .i64 lo) := by rw [Fv1.out.cell]; rfl
  have v3 : w1.cell? ⟨w.heap.size + 1, 3, none⟩ = some (.int .i64 hi) := by rw [Fv1.out.cell]; rfl
  have v4 : w1.cell? ⟨w.heap.size + 1, 4, none⟩ = some (.int .i64 st) := by rw [Fv1.out.cell]; rfl
  have v5 : w1.cell? ⟨w.heap.size + 1, 5, none⟩ = some (.int .i64 rd) := by rw [Fv1.out.cell]; rfl
  go_wp2_with fail
  refine (CIM.out _ Fo1.out).mono ?_
  rintro e w2 ⟨rfl, hb2⟩
  clear i0 v0 v1 v2 v3 v4 v5
  have Fi2 := Lib.hid (Fi1.out.later hb2)
  have Fv2 := Lib.hid (Fv1.out.later hb2)
  have Fl2 := Lib.hid (Fl1.out.later hb2)
  have Fo2 := Lib.hid (Fo1.out.below hb2)
  have Fr2 := Lib.hid (Fr1.out.below hb2)
  have low2 := Lib.hid (low1.out.trans (hb2.mono low1.out.size))
  clear Fi1 Fv1 Fl1 Fo1 Fr1 low1 hb2
  have i0 : w2.cell? ⟨w.heap.size, 0, none⟩ = some (.slice A n c) := by rw [Fi2.out.cell]; rfl
  have v0 : w2.cell? ⟨w.heap.size + 1, 0, none⟩ = some (.int .i64 cx) := by rw [Fv2.out.cell]; rfl
  have v1 : w2.cell? ⟨w.heap.size + 1, 1, none⟩ = some (.int .i64 cy) := by rw [Fv2.out.cell]; rfl
  have v2 : w2.cell? ⟨w.heap.size + 1, 2, none⟩ = some (.int .i64 lo) := by rw [Fv2.out.cell]; rfl
  have v3 : w2.cell? ⟨w.heap.size + 1, 3, none⟩ = some (.int .i64 hi) := by rw [Fv2.out.cell]; rfl
  have v4 : w2.cell? ⟨w.heap.size + 1, 4, none⟩ = some (.int .i64 st) := by rw [Fv2.out.cell]; rfl
  have v5 : w2.cell? ⟨w.heap.size + 1, 5, none⟩ = some (.int .i64 rd) := by rw [Fv2.out.cell]; rfl
  go_wp2_with fail
  refine (CCP.out _ Fr2.out).mono ?_
  rintro e w3 ⟨⟨A1, c1, rfl, hr1⟩, hb3⟩
  clear i0 v0 v1 v2 v3 v4 v5
  have Fi3 := Lib.hid (Fi2.out.later hb3)
  have Fv3 := Lib.hid (Fv2.out.later hb3)
  have Fl3 := Lib.hid (Fl2.out.later hb3)
  have Fo3 := Lib.hid (Fo2.out.below hb3)
  have Fr3 := Lib.hid (Fr2.out.below hb3)
  have low3 := Lib.hid (low2.out.trans (hb3.mono low2.out.size))
  have Fa3 := Lib.hid hr1
  clear hr1
  clear Fi2 Fv2 Fl2 Fo2 Fr2 low2 hb3
  have i0 : w3.cell? ⟨w.heap.size, 0, none⟩ = some (.slice A n c) := by rw [Fi3.out.cell]; rfl
  have v0 : w3.cell? ⟨w.heap.size + 1, 0, none⟩ = some (.int .i64 cx) := by rw [Fv3.out.cell]; rfl
  have v1 : w3.cell? ⟨w.heap.size + 1, 1, none⟩ = some (.int .i64 cy) := by rw [Fv3.out.cell]; rfl
  have v2 : w3.cell? ⟨w.heap.size + 1, 2, none⟩ = some (.int .i64 lo) := by rw [Fv3.out.cell]; rfl
  have v3 : w3.cell? ⟨w.heap.size + 1, 3, none⟩ = some (.int .i64 hi) := by rw [Fv3.out.cell]; rfl
  have v4 : w3.cell? ⟨w.heap.size + 1, 4, none⟩ = some (.int .i64 st) := by rw [Fv3.out.cell]; rfl
  have v5 : w3.cell? ⟨w.heap.size + 1, 5, none⟩ = some (.int .i64 rd) := by rw [Fv3.out.cell]; rfl
  go_wp2_with fail
  refine (CCK.out _ _ _ Fa3.out).mono ?_
  rintro e w4 ⟨rfl, hb4⟩
  clear i0 v0 v1 v2 v3 v4 v5
  have Fi4 := Lib.hid (Fi3.out.later hb4)
  have Fv4 := Lib.hid (Fv3.out.later hb4)
  have Fl4 := Lib.hid (Fl3.out.later hb4)
  have Fo4 := Lib.hid (Fo3.out.below hb4)
  have Fr4 := Lib.hid (Fr3.out.below hb4)
  have Fa4 := Lib.hid (Fa3.out.below hb4)
  have low4 := Lib.hid (low3.out.trans (hb4.mono low3.out.size))
  clear Fi3 Fv3 Fl3 Fo3 Fr3 Fa3 low3 hb4
  have i0 : w4.cell? ⟨w.heap.size, 0, none⟩ = some (.slice A n c) := by rw [Fi4.out.cell]; rfl
  have v0 : w4.cell? ⟨w.heap.size + 1, 0, none⟩ = some (.int .i64 cx) := by rw [Fv4.out.cell]; rfl
  have v1 : w4.cell? ⟨w.heap.size + 1, 1, none⟩ = some (.int .i64 cy) := by rw [Fv4.out.cell]; rfl
  have v2 : w4.cell? ⟨w.heap.size + 1, 2, none⟩ = some (.int .i64 lo) := by rw [Fv4.out.cell]; rfl
  have v3 : w4.cell? ⟨w.heap.size + 1, 3, none⟩ = some (.int .i64 hi) := by rw [Fv4.out.cell]; rfl
  have v4 : w4.cell? ⟨w.heap.size + 1, 4, none⟩ = some (.int .i64 st) := by rw [Fv4.out.cell]; rfl
  have v5 : w4.cell? ⟨w.heap.size + 1, 5, none⟩ = some (.int .i64 rd) := by rw [Fv4.out.cell]; rfl
  have HSB : Hid (∀ W, Below w4.heap.size w4 W → (fun w' : World => w'.cell? ⟨w.heap.size, 0, none⟩ = some (.slice A n c) ∧ w'.cell? ⟨w.heap.size + 1, 0, none⟩ = some (.int .i64 cx) ∧ w'.cell? ⟨w.heap.size + 1, 1, none⟩ = some (.int .i64 cy) ∧ w'.cell? ⟨w.heap.size + 1, 2, none⟩ = some (.int .i64 lo) ∧ w'.cell? ⟨w.heap.size + 1, 3, none⟩ = some (.int .i64 hi) ∧ w'.cell? ⟨w.heap.size + 1, 4, none⟩ = some (.int .i64 st) ∧ w'.cell? ⟨w.heap.size + 1, 5, none⟩ = some (.int .i64 rd) ∧ Below w4.heap.size w4 w') W) := fun W hb => ⟨(hb.cell (p := ⟨w.heap.size, 0, none⟩) (Fi4.out.lt)).trans i0, (hb.cell (p := ⟨w.heap.size + 1, 0, none⟩) (Fv4.out.lt)).trans v0, (hb.cell (p := ⟨w.heap.size + 1, 1, none⟩) (Fv4.out.lt)).trans v1, (hb.cell (p := ⟨w.heap.size + 1, 2, none⟩) (Fv4.out.lt)).trans v2, (hb.cell (p := ⟨w.heap.size + 1, 3, none⟩) (Fv4.out.lt)).trans v3, (hb.cell (p := ⟨w.heap.size + 1, 4, none⟩) (Fv4.out.lt)).trans v4, (hb.cell (p := ⟨w.heap.size + 1, 5, none⟩) (Fv4.out.lt)).trans v5, hb⟩
  go_wp2_with fail
  refine wp_region_held_drew (S := (fun w' : World => w'.cell? ⟨w.heap.size, 0, none⟩ = some (.slice A n c) ∧ w'.cell? ⟨w.heap.size + 1, 0, none⟩ = some (.int .i64 cx) ∧ w'.cell? ⟨w.heap.size + 1, 1, none⟩ = some (.int .i64 cy) ∧ w'.cell? ⟨w.heap.size + 1, 2, none⟩ = some (.int .i64 lo) ∧ w'.cell? ⟨w.heap.size + 1, 3, none⟩ = some (.int .i64 hi) ∧ w'.cell? ⟨w.heap.size + 1, 4, none⟩ = some (.int .i64 st) ∧ w'.cell? ⟨w.heap.size + 1, 5, none⟩ = some (.int .i64 rd) ∧ Below w4.heap.size w4 w')) (by kernel_rfl) ?_ ?_
  · exact HSB.out _ (Below.refl _ _).drew
  intro hHeld
  refine wpAnyH_take (i := 0) (v := ?_) rfl (by kernel_rfl) (by kernel_rfl) (by kernel_rfl) (fun _ _ _ h => h) (Or.inl ⟨by rfl, ?_⟩) (by assumption) ?_
  rotate_left
  · intro w hSw; (try dsimp only at hSw); go_simp; (try (with_reducible rfl))
  try simp only [List.getElem_toArray, List.getElem_cons_succ, List.getElem_cons_zero, Act.put, List.setIfInBounds_toArray, List.set_cons_zero, List.set_cons_succ]
  refine wpAnyH_take (i := 2) (v := ?_) rfl (by kernel_rfl) (by kernel_rfl) (by kernel_rfl) (fun _ _ _ h => h) (Or.inl ⟨by rfl, ?_⟩) (by assumption) ?_
  rotate_left
  · intro w hSw; (try dsimp only at hSw); go_simp; (try (with_reducible rfl))
  try simp only [List.getElem_toArray, List.getElem_cons_succ, List.getElem_cons_zero, Act.put, List.setIfInBounds_toArray, List.set_cons_zero, List.set_cons_succ]
  refine wpAnyH_take (i := 3) (v := ?_) rfl (by kernel_rfl) (by kernel_rfl) (by kernel_rfl) (fun _ _ _ h => h) (Or.inl ⟨by rfl, ?_⟩) (by assumption) ?_
  rotate_left
  · intro w hSw; (try dsimp only at hSw); go_simp; (try (with_reducible rfl))
  try simp only [List.getElem_toArray, List.getElem_cons_succ, List.getElem_cons_zero, Act.put, List.setIfInBounds_toArray, List.set_cons_zero, List.set_cons_succ]
  refine wpAnyH_take (i := 4) (v := ?_) rfl (by kernel_rfl) (by kernel_rfl) (by kernel_rfl) (fun _ _ _ h => h) (Or.inl ⟨by rfl, ?_⟩) (by assumption) ?_
  rotate_left
  · intro w hSw; (try dsimp only at hSw); go_simp; (try (with_reducible rfl))
  try simp only [List.getElem_toArray, List.getElem_cons_succ, List.getElem_cons_zero, Act.put, List.setIfInBounds_toArray, List.set_cons_zero, List.set_cons_succ]
  refine wpAnyH_take (i := 5) (v := ?_) rfl (by kernel_rfl) (by kernel_rfl) (by kernel_rfl) (fun _ _ _ h => h) (Or.inl ⟨by rfl, ?_⟩) (by assumption) ?_
  rotate_left
  · intro w hSw; (try dsimp only at hSw); go_simp; (try (with_reducible rfl))
  try simp only [List.getElem_toArray, List.getElem_cons_succ, List.getElem_cons_zero, Act.put, List.setIfInBounds_toArray, List.set_cons_zero, List.set_cons_succ]
  refine wpAnyH_take (i := 6) (v := ?_) rfl (by kernel_rfl) (by kernel_rfl) (by kernel_rfl) (fun _ _ _ h => h) (Or.inl ⟨by rfl, ?_⟩) (by assumption) ?_
  rotate_left
  · intro w hSw; (try dsimp only at hSw); go_simp; (try (with_reducible rfl))
  try simp only [List.getElem_toArray, List.getElem_cons_succ, List.getElem_cons_zero, Act.put, List.setIfInBounds_toArray, List.set_cons_zero, List.set_cons_succ]
  refine wpAnyH_ready (rs := [1]) (by kernel_rfl) (by simp) ?_
  refine (AllReadyH.cons rfl (fun K hK => ?_) AllReadyH.nil)
  go_simp
  go_at_call 11; refine (CCP.out _ (Fr4.out.below (Below.refl _ _).drew)).mono ?_; rintro e wy ⟨⟨A2, c2, rfl, hr1⟩, hb1⟩
  have hby : Below w4.heap.size w4 wy := ((Below.refl w4.heap.size w4).drew).trans (hb1.mono ((Below.refl w4.heap.size w4).drew).size)
  have HRY := Lib.hid hr1
  have HBY := Lib.hid hby
  clear hr1 hb1 hby
  go_wp2_with fail
  refine hK.out _ _ ?_ (fun hHeld => ?_)
  · clear hK K; exact HSB.out _ HBY.out
  clear hK K
  try simp only [List.getElem_toArray, List.getElem_cons_succ, List.getElem_cons_zero, Act.put, List.setIfInBounds_toArray, List.set_cons_zero, List.set_cons_succ]
  refine wpAnyH_ready (rs := [7]) (by kernel_rfl) (by simp) ?_
  refine (AllReadyH.cons rfl (fun K hK => ?_) AllReadyH.nil)
  go_simp
  go_at_call 12; refine (CRI.out _ _ _ (Fl4.out.later HBY.out) HRY.out).mono ?_; rintro e wz ⟨⟨A3, c3, rfl, hrr⟩, hb2⟩
  have hbz : Below w4.heap.size w4 wz := HBY.out.trans (hb2.mono HBY.out.size)
  have HBZ := Lib.hid hbz
  have HRR := Lib.hid hrr
  clear hrr
  clear hb2 hbz
  go_wp2_with fail
  refine hK.out _ _ ?_ (fun hHeld => ?_)
  · clear hK K; exact HSB.out _ HBZ.out
  clear hK K
  try simp only [List.getElem_toArray, List.getElem_cons_succ, List.getElem_cons_zero, Act.put, List.setIfInBounds_toArray, List.set_cons_zero, List.set_cons_succ]
  refine wpAnyH_take (i := 8) (v := ?_) rfl (by kernel_rfl) (by kernel_rfl) (by kernel_rfl) (fun _ _ _ h => h) (Or.inl ⟨by rfl, ?_⟩) (by assumption) ?_
  rotate_left
  · intro w hSw; (try dsimp only at hSw); go_simp; (try (with_reducible rfl))
  try simp only [List.getElem_toArray, List.getElem_cons_succ, List.getElem_cons_zero, Act.put, List.setIfInBounds_toArray, List.set_cons_zero, List.set_cons_succ]
  refine wpAnyH_take (i := 9) (v := ?_) rfl (by kernel_rfl) (by kernel_rfl) (by kernel_rfl) (fun _ _ _ h => h) (Or.inl ⟨by rfl, ?_⟩) (by assumption) ?_
  rotate_left
  · intro w hSw; (try dsimp only at hSw); go_simp; (try (with_reducible rfl))
  try simp only [List.getElem_toArray, List.getElem_cons_succ, List.getElem_cons_zero, Act.put, List.setIfInBounds_toArray, List.set_cons_zero, List.set_cons_succ]
  refine wpAnyH_take (i := 10) (v := ?_) rfl (by kernel_rfl) (by kernel_rfl) (by kernel_rfl) (fun _ _ _ h => h) (Or.inl ⟨by rfl, ?_⟩) (by assumption) ?_
  rotate_left
  · intro w hSw; (try dsimp only at hSw); go_simp; (try (with_reducible rfl))
  try simp only [List.getElem_toArray, List.getElem_cons_succ, List.getElem_cons_zero, Act.put, List.setIfInBounds_toArray, List.set_cons_zero, List.set_cons_succ]
  refine wpAnyH_take (i := 11) (v := ?_) rfl (by kernel_rfl) (by kernel_rfl) (by kernel_rfl) (fun _ _ _ h => h) (Or.inl ⟨by rfl, ?_⟩) (by assumption) ?_
  rotate_left
  · intro w hSw; (try dsimp only at hSw); go_simp; (try (with_reducible rfl))
  try simp only [List.getElem_toArray, List.getElem_cons_succ, List.getElem_cons_zero, Act.put, List.setIfInBounds_toArray, List.set_cons_zero, List.set_cons_succ]
  refine wpAnyH_take (i := 12) (v := ?_) rfl (by kernel_rfl) (by kernel_rfl) (by kernel_rfl) (fun _ _ _ h => h) (Or.inl ⟨by rfl, ?_⟩) (by assumption) ?_
  rotate_left
  · intro w hSw; (try dsimp only at hSw); go_simp; (try (with_reducible rfl))
  try simp only [List.getElem_toArray, List.getElem_cons_succ, List.getElem_cons_zero, Act.put, List.setIfInBounds_toArray, List.set_cons_zero, List.set_cons_succ]
  refine wpAnyH_done (by kernel_rfl) ?_ _
  obtain ⟨w5, hw5⟩ : ∃ W, W = wz := ⟨_, rfl⟩
  subst hw5
  clear hHeld HSB HRY HBY
  clear i0 v0 v1 v2 v3 v4 v5
  have Fi5 := Lib.hid (Fi4.out.later HBZ.out)
  have Fv5 := Lib.hid (Fv4.out.later HBZ.out)
  have Fl5 := Lib.hid (Fl4.out.later HBZ.out)
  have Fo5 := Lib.hid (Fo4.out.below HBZ.out)
  have Fr5 := Lib.hid (Fr4.out.below HBZ.out)
  have low5 := Lib.hid (low4.out.trans (HBZ.out.mono low4.out.size))
  clear HBZ Fi4 Fv4 Fl4 Fo4 Fr4 low4
  have i0 : w5.cell? ⟨w.heap.size, 0, none⟩ = some (.slice A n c) := by rw [Fi5.out.cell]; rfl
  have v0 : w5.cell? ⟨w.heap.size + 1, 0, none⟩ = some (.int .i64 cx) := by rw [Fv5.out.cell]; rfl
  have v1 : w5.cell? ⟨w.heap.size + 1, 1, none⟩ = some (.int .i64 cy) := by rw [Fv5.out.cell]; rfl
  have v2 : w5.cell? ⟨w.heap.size + 1, 2, none⟩ = some (.int .i64 lo) := by rw [Fv5.out.cell]; rfl
  have v3 : w5.cell? ⟨w.heap.size + 1, 3, none⟩ = some (.int .i64 hi) := by rw [Fv5.out.cell]; rfl
  have v4 : w5.cell? ⟨w.heap.size + 1, 4, none⟩ = some (.int .i64 st) := by rw [Fv5.out.cell]; rfl
  have v5 : w5.cell? ⟨w.heap.size + 1, 5, none⟩ = some (.int .i64 rd) := by rw [Fv5.out.cell]; rfl
  have HSB : Hid (∀ W, Below w5.heap.size w5 W → (fun w' : World => w'.cell? ⟨w.heap.size, 0, none⟩ = some (.slice A n c) ∧ w'.cell? ⟨w.heap.size + 1, 0, none⟩ = some (.int .i64 cx) ∧ w'.cell? ⟨w.heap.size + 1, 1, none⟩ = some (.int .i64 cy) ∧ w'.cell? ⟨w.heap.size + 1, 2, none⟩ = some (.int .i64 lo) ∧ w'.cell? ⟨w.heap.size + 1, 3, none⟩ = some (.int .i64 hi) ∧ w'.cell? ⟨w.heap.size + 1, 4, none⟩ = some (.int .i64 st) ∧ w'.cell? ⟨w.heap.size + 1, 5, none⟩ = some (.int .i64 rd) ∧ Below w5.heap.size w5 w') W) := fun W hb => ⟨(hb.cell (p := ⟨w.heap.size, 0, none⟩) (Fi5.out.lt)).trans i0, (hb.cell (p := ⟨w.heap.size + 1, 0, none⟩) (Fv5.out.lt)).trans v0, (hb.cell (p := ⟨w.heap.size + 1, 1, none⟩) (Fv5.out.lt)).trans v1, (hb.cell (p := ⟨w.heap.size + 1, 2, none⟩) (Fv5.out.lt)).trans v2, (hb.cell (p := ⟨w.heap.size + 1, 3, none⟩) (Fv5.out.lt)).trans v3, (hb.cell (p := ⟨w.heap.size + 1, 4, none⟩) (Fv5.out.lt)).trans v4, (hb.cell (p := ⟨w.heap.size + 1, 5, none⟩) (Fv5.out.lt)).trans v5, hb⟩
  go_wp2_with fail
  refine wp_region_held_drew (S := (fun w' : World => w'.cell? ⟨w.heap.size, 0, none⟩ = some (.slice A n c) ∧ w'.cell? ⟨w.heap.size + 1, 0, none⟩ = some (.int .i64 cx) ∧ w'.cell? ⟨w.heap.size + 1, 1, none⟩ = some (.int .i64 cy) ∧ w'.cell? ⟨w.heap.size + 1, 2, none⟩ = some (.int .i64 lo) ∧ w'.cell? ⟨w.heap.size + 1, 3, none⟩ = some (.int .i64 hi) ∧ w'.cell? ⟨w.heap.size + 1, 4, none⟩ = some (.int .i64 st) ∧ w'.cell? ⟨w.heap.size + 1, 5, none⟩ = some (.int .i64 rd) ∧ Below w5.heap.size w5 w')) (by kernel_rfl) ?_ ?_
  · exact HSB.out _ (Below.refl _ _).drew
  intro hHeld
  refine wpAnyH_take (i := 0) (v := ?_) rfl (by kernel_rfl) (by kernel_rfl) (by kernel_rfl) (fun _ _ _ h => h) (Or.inl ⟨by rfl, ?_⟩) (by assumption) ?_
  rotate_left
  · intro w hSw; (try dsimp only at hSw); go_simp; (try (with_reducible rfl))
  try simp only [List.getElem_toArray, List.getElem_cons_succ, List.getElem_cons_zero, Act.put, List.setIfInBounds_toArray, List.set_cons_zero, List.set_cons_succ]
  refine wpAnyH_take (i := 2) (v := ?_) rfl (by kernel_rfl) (by kernel_rfl) (by kernel_rfl) (fun _ _ _ h => h) (Or.inl ⟨by rfl, ?_⟩) (by assumption) ?_
  rotate_left
  · intro w hSw; (try dsimp only at hSw); go_simp; (try (with_reducible rfl))
  try simp only [List.getElem_toArray, List.getElem_cons_succ, List.getElem_cons_zero, Act.put, List.setIfInBounds_toArray, List.set_cons_zero, List.set_cons_succ]
  refine wpAnyH_take (i := 3) (v := ?_) rfl (by kernel_rfl) (by kernel_rfl) (by kernel_rfl) (fun _ _ _ h => h) (Or.inl ⟨by rfl, ?_⟩) (by assumption) ?_
  rotate_left
  · intro w hSw; (try dsimp only at hSw); go_simp; (try (with_reducible rfl))
  try simp only [List.getElem_toArray, List.getElem_cons_succ, List.getElem_cons_zero, Act.put, List.setIfInBounds_toArray, List.set_cons_zero, List.set_cons_succ]
  refine wpAnyH_ready (rs := [1]) (by kernel_rfl) (by simp) ?_
  refine (AllReadyH.cons rfl (fun K hK => ?_) AllReadyH.nil)
  go_simp
  go_at_call 11; refine (CCP.out _ (Fr5.out.below (Below.refl _ _).drew)).mono ?_; rintro e wy ⟨⟨A4, c4, rfl, hr1⟩, hb1⟩
  have hby : Below w5.heap.size w5 wy := ((Below.refl w5.heap.size w5).drew).trans (hb1.mono ((Below.refl w5.heap.size w5).drew).size)
  have HRY := Lib.hid hr1
  have HBY := Lib.hid hby
  clear hr1 hb1 hby
  go_wp2_with fail
  refine hK.out _ _ ?_ (fun hHeld => ?_)
  · clear hK K; exact HSB.out _ HBY.out
  clear hK K
  try simp only [List.getElem_toArray, List.getElem_cons_succ, List.getElem_cons_zero, Act.put, List.setIfInBounds_toArray, List.set_cons_zero, List.set_cons_succ]
  refine wpAnyH_ready (rs := [4]) (by kernel_rfl) (by simp) ?_
  refine (AllReadyH.cons rfl (fun K hK => ?_) AllReadyH.nil)
  go_simp
  go_at_call 13; refine (CUN.out _ _ _ (Fl5.out.later HBY.out) HRY.out).mono ?_; rintro e wz ⟨⟨A5, c5, rfl, hru⟩, hb2⟩
  have hbz : Below w5.heap.size w5 wz := HBY.out.trans (hb2.mono HBY.out.size)
  have HBZ := Lib.hid hbz
  have HRU := Lib.hid hru
  clear hru
  clear hb2 hbz
  go_wp2_with fail
  refine hK.out _ _ ?_ (fun hHeld => ?_)
  · clear hK K; exact HSB.out _ HBZ.out
  clear hK K
  try simp only [List.getElem_toArray, List.getElem_cons_succ, List.getElem_cons_zero, Act.put, List.setIfInBounds_toArray, List.set_cons_zero, List.set_cons_succ]
  refine wpAnyH_take (i := 5) (v := ?_) rfl (by kernel_rfl) (by kernel_rfl) (by kernel_rfl) (fun _ _ _ h => h) (Or.inl ⟨by rfl, ?_⟩) (by assumption) ?_
  rotate_left
  · intro w hSw; (try dsimp only at hSw); go_simp; (try (with_reducible rfl))
  try simp only [List.getElem_toArray, List.getElem_cons_succ, List.getElem_cons_zero, Act.put, List.setIfInBounds_toArray, List.set_cons_zero, List.set_cons_succ]
  refine wpAnyH_take (i := 6) (v := ?_) rfl (by kernel_rfl) (by kernel_rfl) (by kernel_rfl) (fun _ _ _ h => h) (Or.inl ⟨by rfl, ?_⟩) (by assumption) ?_
  rotate_left
  · intro w hSw; (try dsimp only at hSw); go_simp; (try (with_reducible rfl))
  try simp only [List.getElem_toArray, List.getElem_cons_succ, List.getElem_cons_zero, Act.put, List.setIfInBounds_toArray, List.set_cons_zero, List.set_cons_succ]
  refine wpAnyH_take (i := 7) (v := ?_) rfl (by kernel_rfl) (by kernel_rfl) (by kernel_rfl) (fun _ _ _ h => h) (Or.inl ⟨by rfl, ?_⟩) (by assumption) ?_
  rotate_left
  · intro w hSw; (try dsimp only at hSw); go_simp; (try (with_reducible rfl))
  try simp only [List.getElem_toArray, List.getElem_cons_succ, List.getElem_cons_zero, Act.put, List.setIfInBounds_toArray, List.set_cons_zero, List.set_cons_succ]
  refine wpAnyH_take (i := 8) (v := ?_) rfl (by kernel_rfl) (by kernel_rfl) (by kernel_rfl) (fun _ _ _ h => h) (Or.inl ⟨by rfl, ?_⟩) (by assumption) ?_
  rotate_left
  · intro w hSw; (try dsimp only at hSw); go_simp; (try (with_reducible rfl))
  try simp only [List.getElem_toArray, List.getElem_cons_succ, List.getElem_cons_zero, Act.put, List.setIfInBounds_toArray, List.set_cons_zero, List.set_cons_succ]
  refine wpAnyH_take (i := 9) (v := ?_) rfl (by kernel_rfl) (by kernel_rfl) (by kernel_rfl) (fun _ _ _ h => h) (Or.inl ⟨by rfl, ?_⟩) (by assumption) ?_
  rotate_left
  · intro w hSw; (try dsimp only at hSw); go_simp; (try (with_reducible rfl))
  try simp only [List.getElem_toArray, List.getElem_cons_succ, List.getElem_cons_zero, Act.put, List.setIfInBounds_toArray, List.set_cons_zero, List.set_cons_succ]
  refine wpAnyH_done (by kernel_rfl) ?_ _
  obtain ⟨w6, hw6⟩ : ∃ W, W = wz := ⟨_, rfl⟩
  subst hw6
  clear hHeld HSB HRY HBY
  clear i0 v0 v1 v2 v3 v4 v5
  have Fi6 := Lib.hid (Fi5.out.later HBZ.out)
  have Fv6 := Lib.hid (Fv5.out.later HBZ.out)
  have Fl6 := Lib.hid (Fl5.out.later HBZ.out)
  have Fo6 := Lib.hid (Fo5.out.below HBZ.out)
  have Fr6 := Lib.hid (Fr5.out.below HBZ.out)
  have Fp6 := Lib.hid (HRR.out.below HBZ.out)
  have low6 := Lib.hid (low5.out.trans (HBZ.out.mono low5.out.size))
  clear HBZ Fi5 Fv5 Fl5 Fo5 Fr5 HRR low5
  have i0 : w6.cell? ⟨w.heap.size, 0, none⟩ = some (.slice A n c) := by rw [Fi6.out.cell]; rfl
  have v0 : w6.cell? ⟨w.heap.size + 1, 0, none⟩ = some (.int .i64 cx) := by rw [Fv6.out.cell]; rfl
  have v1 : w6.cell? ⟨w.heap.size + 1, 1, none⟩ = some (.int .i64 cy) := by rw [Fv6.out.cell]; rfl
  have v2 : w6.cell? ⟨w.heap.size + 1, 2, none⟩ = some (.int .i64 lo) := by rw [Fv6.out.cell]; rfl
  have v3 : w6.cell? ⟨w.heap.size + 1, 3, none⟩ = some (.int .i64 hi) := by rw [Fv6.out.cell]; rfl
  have v4 : w6.cell? ⟨w.heap.size + 1, 4, none⟩ = some (.int .i64 st) := by rw [Fv6.out.cell]; rfl
  have v5 : w6.cell? ⟨w.heap.size + 1, 5, none⟩ = some (.int .i64 rd) := by rw [Fv6.out.cell]; rfl
  go_wp2_with fail
  refine (CIE.out _ Fr6.out).mono ?_
  rintro e w7 ⟨rfl, hb7⟩
  clear i0 v0 v1 v2 v3 v4 v5
  have Fi7 := Lib.hid (Fi6.out.later hb7)
  have Fv7 := Lib.hid (Fv6.out.later hb7)
  have Fl7 := Lib.hid (Fl6.out.later hb7)
  have Fo7 := Lib.hid (Fo6.out.below hb7)
  have Fr7 := Lib.hid (Fr6.out.below hb7)
  have Fp7 := Lib.hid (Fp6.out.below hb7)
  have Fu7 := Lib.hid (HRU.out.below hb7)
  have low7 := Lib.hid (low6.out.trans (hb7.mono low6.out.size))
  clear Fi6 Fv6 Fl6 Fo6 Fr6 Fp6 HRU low6 hb7
  have i0 : w7.cell? ⟨w.heap.size, 0, none⟩ = some (.slice A n c) := by rw [Fi7.out.cell]; rfl
  have v0 : w7.cell? ⟨w.heap.size + 1, 0, none⟩ = some (.int .i64 cx) := by rw [Fv7.out.cell]; rfl
  have v1 : w7.cell? ⟨w.heap.size + 1, 1, none⟩ = some (.int .i64 cy) := by rw [Fv7.out.cell]; rfl
  have v2 : w7.cell? ⟨w.heap.size + 1, 2, none⟩ = some (.int .i64 lo) := by rw [Fv7.out.cell]; rfl
  have v3 : w7.cell? ⟨w.heap.size + 1, 3, none⟩ = some (.int .i64 hi) := by rw [Fv7.out.cell]; rfl
  have v4 : w7.cell? ⟨w.heap.size + 1, 4, none⟩ = some (.int .i64 st) := by rw [Fv7.out.cell]; rfl
  have v5 : w7.cell? ⟨w.heap.size + 1, 5, none⟩ = some (.int .i64 rd) := by rw [Fv7.out.cell]; rfl
  go_wp2
  go_ret
  exact ⟨rfl, low7.out⟩

end Go.Proofs.YtofdjapbofagiaaDoor
