import Derived.Test.YtofdjapbofagiaaDoorE8
namespace Go.Proofs.YtofdjapbofagiaaDoor
open Go.RowKit

set_option maxRecDepth 100000 in
set_option maxHeartbeats 16000000 in
theorem rings_ok (A : Option Addr) (n c : Nat) (rows : List (List Int)) (cx cy lo hi st rd : Int) (w : World) (hl : LaidSides w) (hr : RdGo w A n rows) (hgb : gridB 24 24 rows = true) (hn26 : n ≤ 26) (hm203 : ∀ j, j < n → (rows.getD j []).length ≤ 203) (hgE : gridE 24 24 rows = 0) (rE uE : Int) (rl ul : Nat) (rx : List Int) (ux : List (List Int)) (hrE : ringE rows cx cy rd = rE) (hrX : ringX rows cx cy rd = rx) (hrl : rx.length = rl) (huE : vwE rows cx cy lo hi st = uE) (huX : vwX rows cx cy lo hi st = ux) (hul : ux.length = ul) (hrlb : rl ≤ 1000) (hulb : ul ≤ 1000) :
    Calls Tryd.prog 3 #[.agg #[.slice A n c], .agg #[.int .i64 cx, .int .i64 cy, .int .i64 lo, .int .i64 hi, .int .i64 st, .int .i64 rd]] w fun e w' => e = .returned (.bool true) ∧ Below w.heap.size w w' := by
  have hb0 : Below w.heap.size w ((w.alloc (.cells #[.slice A n c] 24)).alloc (.cells #[.int .i64 cx, .int .i64 cy, .int .i64 lo, .int .i64 hi, .int .i64 st, .int .i64 rd] 32)) := ((Below.refl _ _).alloc (Nat.le_refl _) _).alloc (by simp) _
  have HL := Lib.hid (hl.later hb0)
  have HI0 : Hid (Bk ((w.alloc (.cells #[.slice A n c] 24)).alloc (.cells #[.int .i64 cx, .int .i64 cy, .int .i64 lo, .int .i64 hi, .int .i64 st, .int .i64 rd] 32)) w.heap.size 24 #[.slice A n c]) := (Bk.new w 24 #[.slice A n c]).alloc _
  have HV0 : Hid (Bk ((w.alloc (.cells #[.slice A n c] 24)).alloc (.cells #[.int .i64 cx, .int .i64 cy, .int .i64 lo, .int .i64 hi, .int .i64 st, .int .i64 rd] 32)) (w.heap.size + 1) 32 #[.int .i64 cx, .int .i64 cy, .int .i64 lo, .int .i64 hi, .int .i64 st, .int .i64 rd]) := by
    have := Bk.new (w.alloc (.cells #[.slice A n c] 24)) 32 #[.int .i64 cx, .int .i64 cy, .int .i64 lo, .int .i64 hi, .int .i64 st, .int .i64 rd]
    show Bk _ _ _ _
    simpa using this
  have HRO := Lib.hid (hr.below hb0)
  have low0 := Lib.hid hb0
  have CIM : Hid (∀ W, RdGo W A n rows → Calls Tryd.prog 9 #[.agg #[.slice A n c]] W fun e w' => e = .returned (.bool true) ∧ Below W.heap.size W w') := fun W h => by rw [← hgb]; exact image_any A n c rows W h
  have HRN := Lib.hid ((hr.full hm203).below hb0)
  have CCP : Hid (∀ W, RdGN W A n rows → Calls Tryd.prog 11 #[.agg #[.slice A n c]] W fun e w' => (∃ A' c', e = .returned (.agg #[.slice A' n c']) ∧ RdGN w' A' n rows) ∧ Below W.heap.size W w') := fun W h => copyImage_any A n c rows W h (by omega) hm203
  have CCK : Hid (∀ W A' c', RdGN W A' n rows → Calls Tryd.prog 10 #[.agg #[.slice A' n c']] W fun e w' => e = .returned (.int .i64 0) ∧ Below W.heap.size W w') := fun W A' c' h => by rw [← hgE]; exact checkImage_any A' n c' rows W h.toG (by omega)
  have CIE : Hid (∀ W, RdGN W A n rows → Calls Tryd.prog 14 #[.agg #[.slice A n c]] W fun e w' => e = .returned (.int .i64 0) ∧ Below W.heap.size W w') := fun W h => by rw [← hgE]; exact refImageErr_any A n c rows W h.toG (by omega)
  obtain ⟨m, g1, g2, g3, g4, g5, g6⟩ := grid_ok hgE
  have hln := hr.1
  have hn24 : 0 < n ∧ n ≤ 24 := by omega
  have hm24 : 0 < m ∧ m ≤ 24 := by omega
  have hrb := row_bounds g6
  have CPA : Hid (∀ W A' (_ : Nat), RdGN W A' n rows → ∃ ad B c'', A' = some ad ∧ CellAt W ad (.slice B m c'')) := fun W A' c' h => by
    obtain ⟨ad, e, hlt, hc⟩ := h.2 hn24.1
    obtain ⟨B, m', c'', hck, hrow, _⟩ := hc 0 hn24.1
    obtain rfl : m' = m := by rw [← hrow.1, g5]
    rw [addZ] at hck
    exact ⟨ad, B, c'', e, hlt, hck⟩
  obtain ⟨q1, q2⟩ := rr_same (cx := cx) (cy := cy) (r := rd) hgE hln g5
  have CRI : Hid (∀ W A' c', LaidSides W → RdGN W A' n rows → Calls Tryd.prog 12 #[.agg #[.slice A' n c'], .agg #[.int .i64 cx, .int .i64 cy], .int .i64 rd] W fun e w' => (∃ A2 c2, e = .returned (.tuple #[.slice A2 rl c2, .int .i64 rE]) ∧ RdI w' A2 rl rx) ∧ Below W.heap.size W w') := fun W A' c' h1 h2 => by
    have h := RingOf_any A' n c' rows cx cy rd W h1 h2.toG (by omega)
    rw [hrE, hrX] at h
    refine h.mono ?_
    rintro e w' ⟨⟨v, he, ho⟩, hb⟩
    rw [hrl] at ho
    obtain ⟨A2, c2, e2, h3, _⟩ := RdI.ofOwnN ho
    exact ⟨⟨A2, c2, by rw [he, e2], h3⟩, hb⟩
  have CRR : Hid (∀ W, RdGN W A n rows → Calls Tryd.prog 15 #[.agg #[.slice A n c], .agg #[.int .i64 cx, .int .i64 cy], .int .i64 rd] W fun e w' => (∃ A2 c2, e = .returned (.tuple #[.slice A2 rl c2, .int .i64 rE]) ∧ RdI w' A2 rl rx) ∧ Below W.heap.size W w') := fun W h2 => by
    obtain ⟨ad, B, c'', e, hck⟩ := CPA.out W A c h2
    subst e
    have h := refRingOf_any ad n c m c'' B rows cx cy W h2.toG hn24 hm24 hck.1 hck.2 hrb rd
    rw [q1, q2, hrE, hrX] at h
    refine h.mono ?_
    rintro e w' ⟨⟨v, he, ho⟩, hb⟩
    rw [hrl] at ho
    obtain ⟨A2, c2, e2, h3, _⟩ := RdI.ofOwnN ho
    exact ⟨⟨A2, c2, by rw [he, e2], h3⟩, hb⟩
  have CUN : Hid (∀ W A' c', LaidSides W → RdGN W A' n rows → Calls Tryd.prog 13 #[.agg #[.slice A' n c'], .agg #[.int .i64 cx, .int .i64 cy, .int .i64 lo, .int .i64 hi, .int .i64 st]] W fun e w' => (∃ A2 c2, e = .returned (.tuple #[.slice A2 ul c2, .int .i64 uE]) ∧ RdGN w' A2 ul ux) ∧ Below W.heap.size W w') := fun W A' c' h1 h2 => by
    obtain ⟨ad, B, c'', e, hck⟩ := CPA.out W A' c' h2
    subst e
    have h := un_any ad n c' m c'' B rows cx cy lo hi st W h1 h2.toG hn24 hm24 hck g5 hgE (fun r hr => (g6 r hr).1)
    rw [huE, huX] at h
    unfold ResG at h
    rw [hul] at h
    exact h
  have CRU : Hid (∀ W, RdGN W A n rows → Calls Tryd.prog 17 #[.agg #[.slice A n c], .agg #[.int .i64 cx, .int .i64 cy, .int .i64 lo, .int .i64 hi, .int .i64 st]] W fun e w' => (∃ A2 c2, e = .returned (.tuple #[.slice A2 ul c2, .int .i64 uE]) ∧ RdGN w' A2 ul ux) ∧ Below W.heap.size W w') := fun W h2 => by
    obtain ⟨ad, B, c'', e, hck⟩ := CPA.out W A c h2
    subst e
    have h := refUn_any ad n c m c'' B rows cx cy lo hi st W h2.toG hn24 hm24 hck g5 hgE hrb
    rw [huE, huX] at h
    unfold ResG at h
    rw [hul] at h
    exact h
  have CIN : Hid (∀ W A' c' A2 c2, RdI W A' rl rx → RdI W A2 rl rx → Calls Tryd.prog 16 #[.slice A' rl c', .slice A2 rl c2] W fun e w' => e = .returned (.bool true) ∧ Below W.heap.size W w') := fun W A' c' A2 c2 h1 h2 => by
    have h := ints_any A' A2 rl rl c' c2 rx rx W h1 h2 (by omega) (by omega)
    rw [decide_eq_true rfl] at h
    refine h.mono ?_
    rintro e w' ⟨he, q, rfl⟩
    exact ⟨he, belowDrewN (Below.refl _ _) q⟩
  have hrr : (rE != rE) = false := bne_self_eq_false' _
  have huu : (uE == uE) = true := by simp
  clear hl hr hb0 hgb hm203 hgE g1 g2 g3 g4 g5 g6 hln hrb q1 q2 CPA hrE hrX hrl huE huX hul hm24
  go_enter Tryd.func3, Tryd.ntmps3
  go_wp2_with fail
  refine (awake_any _ HL.out).mono ?_
  rintro e w1 ⟨rfl, hb1⟩
  have Fi1 := Lib.hid (HI0.out.later hb1)
  have Fv1 := Lib.hid (HV0.out.later hb1)
  have Fl1 := Lib.hid (HL.out.later hb1)
  have Fo1 := Lib.hid (HRO.out.below hb1)
  have Fr1 := Lib.hid (HRN.out.below hb1)
  have low1 := Lib.hid (low0.out.trans (hb1.mono low0.out.size))
  clear HI0 HV0 HL HRO HRN low0 hb1
  have i0 : w1.cell? ⟨w.heap.size, 0, none⟩ = some (.slice A n c) := by rw [Fi1.out.cell]; rfl
  have v0 : w1.cell? ⟨w.heap.size + 1, 0, none⟩ = some (.int .i64 cx) := by rw [Fv1.out.cell]; rfl
  have v1 : w1.cell? ⟨w.heap.size + 1, 1, none⟩ = some (.int .i64 cy) := by rw [Fv1.out.cell]; rfl
  have v2 : w1.cell? ⟨w.heap.size + 1, 2, none⟩ = some (.int .i64 lo) := by rw [Fv1.out.cell]; rfl
  have v3 : w1.cell? ⟨w.heap.size + 1, 3, none⟩ = some (.int .i64 hi) := by rw [Fv1.out.cell]; rfl
  have v4 : w1.cell? ⟨w.heap.size + 1, 4, none⟩ = some (.int .i64 st) := by rw [Fv1.out.cell]; rfl
  have v5 : w1.cell? ⟨w.heap.size + 1, 5, none⟩ = some (.int .i64 rd) := by rw [Fv1.out.cell]; rfl
  go_wp2_with fail
  refine (CIM.out _ Fo1.out).mono ?_
  rintro e w2 ⟨rfl, hb2⟩
  clear i0 v0 v1 v2 v3 v4 v5
  have Fi2 := Lib.hid (Fi1.out.later hb2)
  have Fv2 := Lib.hid (Fv1.out.later hb2)
  have Fl2 := Lib.hid (Fl1.out.later hb2)
  have Fo2 := Lib.hid (Fo1.out.below hb2)
  have Fr2 := Lib.hid (Fr1.out.below hb2)
  have low2 := Lib.hid (low1.out.trans (hb2.mono low1.out.size))
  clear Fi1 Fv1 Fl1 Fo1 Fr1 low1 hb2
  have i0 : w2.cell? ⟨w.heap.size, 0, none⟩ = some (.slice A n c) := by rw [Fi2.out.cell]; rfl
  have v0 : w2.cell? ⟨w.heap.size + 1, 0, none⟩ = some (.int .i64 cx) := by rw [Fv2.out.cell]; rfl
  have v1 : w2.cell? ⟨w.heap.size + 1, 1, none⟩ = some (.int .i64 cy) := by rw [Fv2.out.cell]; rfl
  have v2 : w2.cell? ⟨w.heap.size + 1, 2, none⟩ = some (.int .i64 lo) := by rw [Fv2.out.cell]; rfl
  have v3 : w2.cell? ⟨w.heap.size + 1, 3, none⟩ = some (.int .i64 hi) := by rw [Fv2.out.cell]; rfl
  have v4 : w2.cell? ⟨w.heap.size + 1, 4, none⟩ = some (.int .i64 st) := by rw [Fv2.out.cell]; rfl
  have v5 : w2.cell? ⟨w.heap.size + 1, 5, none⟩ = some (.int .i64 rd) := by rw [Fv2.out.cell]; rfl
  go_wp2_with fail
  refine (CCP.out _ Fr2.out).mono ?_
  rintro e w3 ⟨⟨A1, c1, rfl, hr1⟩, hb3⟩
  clear i0 v0 v1 v2 v3 v4 v5
  have Fi3 := Lib.hid (Fi2.out.later hb3)
  have Fv3 := Lib.hid (Fv2.out.later hb3)
  have Fl3 := Lib.hid (Fl2.out.later hb3)
  have Fo3 := Lib.hid (Fo2.out.below hb3)
  have Fr3 := Lib.hid (Fr2.out.below hb3)
  have low3 := Lib.hid (low2.out.trans (hb3.mono low2.out.size))
  have Fa3 := Lib.hid hr1
  clear hr1
  clear Fi2 Fv2 Fl2 Fo2 Fr2 low2 hb3
  have i0 : w3.cell? ⟨w.heap.size, 0, none⟩ = some (.slice A n c) := by rw [Fi3.out.cell]; rfl
  have v0 : w3.cell? ⟨w.heap.size + 1, 0, none⟩ = some (.int .i64 cx) := by rw [Fv3.out.cell]; rfl
  have v1 : w3.cell? ⟨w.heap.size + 1, 1, none⟩ = some (.int .i64 cy) := by rw [Fv3.out.cell]; rfl
  have v2 : w3.cell? ⟨w.heap.size + 1, 2, none⟩ = some (.int .i64 lo) := by rw [Fv3.out.cell]; rfl
  have v3 : w3.cell? ⟨w.heap.size + 1, 3, none⟩ = some (.int .i64 hi) := by rw [Fv3.out.cell]; rfl
  have v4 : w3.cell? ⟨w.heap.size + 1, 4, none⟩ = some (.int .i64 st) := by rw [Fv3.out.cell]; rfl
  have v5 : w3.cell? ⟨w.heap.size + 1, 5, none⟩ = some (.int .i64 rd) := by rw [Fv3.out.cell]; rfl
  go_wp2_with fail
  refine (CCK.out _ _ _ Fa3.out).mono ?_
  rintro e w4 ⟨rfl, hb4⟩
  clear i0 v0 v1 v2 v3 v4 v5
  have Fi4 := Lib.hid (Fi3.out.later hb4)
  have Fv4 := Lib.hid (Fv3.out.later hb4)
  have Fl4 := Lib.hid (Fl3.out.later hb4)
  have Fo4 := Lib.hid (Fo3.out.below hb4)
  have Fr4 := Lib.hid (Fr3.out.below hb4)
  have Fa4 := Lib.hid (Fa3.out.below hb4)
  have low4 := Lib.hid (low3.out.trans (hb4.mono low3.out.size))
  clear Fi3 Fv3 Fl3 Fo3 Fr3 Fa3 low3 hb4
  have i0 : w4.cell? ⟨w.heap.size, 0, none⟩ = some (.slice A n c) := by rw [Fi4.out.cell]; rfl
  have v0 : w4.cell? ⟨w.heap.size + 1, 0, none⟩ = some (.int .i64 cx) := by rw [Fv4.out.cell]; rfl
  have v1 : w4.cell? ⟨w.heap.size + 1, 1, none⟩ = some (.int .i64 cy) := by rw [Fv4.out.cell]; rfl
  have v2 : w4.cell? ⟨w.heap.size + 1, 2, none⟩ = some (.int .i64 lo) := by rw [Fv4.out.cell]; rfl
  have v3 : w4.cell? ⟨w.heap.size + 1, 3, none⟩ = some (.int .i64 hi) := by rw [Fv4.out.cell]; rfl
  have v4 : w4.cell? ⟨w.heap.size + 1, 4, none⟩ = some (.int .i64 st) := by rw [Fv4.out.cell]; rfl
  have v5 : w4.cell? ⟨w.heap.size + 1, 5, none⟩ = some (.int .i64 rd) := by rw [Fv4.out.cell]; rfl
  have HSB : Hid (∀ W, Below w4.heap.size w4 W → (fun w' : World => w'.cell? ⟨w.heap.size, 0, none⟩ = some (.slice A n c) ∧ w'.cell? ⟨w.heap.size + 1, 0, none⟩ = some (.int .i64 cx) ∧ w'.cell? ⟨w.heap.size + 1, 1, none⟩ = some (.int .i64 cy) ∧ w'.cell? ⟨w.heap.size + 1, 2, none⟩ = some (.int .i64 lo) ∧ w'.cell? ⟨w.heap.size + 1, 3, none⟩ = some (.int .i64 hi) ∧ w'.cell? ⟨w.heap.size + 1, 4, none⟩ = some (.int .i64 st) ∧ w'.cell? ⟨w.heap.size + 1, 5, none⟩ = some (.int .i64 rd) ∧ Below w4.heap.size w4 w') W) := fun W hb => ⟨(hb.cell (p := ⟨w.heap.size, 0, none⟩) (Fi4.out.lt)).trans i0, (hb.cell (p := ⟨w.heap.size + 1, 0, none⟩) (Fv4.out.lt)).trans v0, (hb.cell (p := ⟨w.heap.size + 1, 1, none⟩) (Fv4.out.lt)).trans v1, (hb.cell (p := ⟨w.heap.size + 1, 2, none⟩) (Fv4.out.lt)).trans v2, (hb.cell (p := ⟨w.heap.size + 1, 3, none⟩) (Fv4.out.lt)).trans v3, (hb.cell (p := ⟨w.heap.size + 1, 4, none⟩) (Fv4.out.lt)).trans v4, (hb.cell (p := ⟨w.heap.size + 1, 5, none⟩) (Fv4.out.lt)).trans v5, hb⟩
  go_wp2_with fail
  refine wp_region_held_drew (S := (fun w' : World => w'.cell? ⟨w.heap.size, 0, none⟩ = some (.slice A n c) ∧ w'.cell? ⟨w.heap.size + 1, 0, none⟩ = some (.int .i64 cx) ∧ w'.cell? ⟨w.heap.size + 1, 1, none⟩ = some (.int .i64 cy) ∧ w'.cell? ⟨w.heap.size + 1, 2, none⟩ = some (.int .i64 lo) ∧ w'.cell? ⟨w.heap.size + 1, 3, none⟩ = some (.int .i64 hi) ∧ w'.cell? ⟨w.heap.size + 1, 4, none⟩ = some (.int .i64 st) ∧ w'.cell? ⟨w.heap.size + 1, 5, none⟩ = some (.int .i64 rd) ∧ Below w4.heap.size w4 w')) (by kernel_rfl) ?_ ?_
  · exact HSB.out _ (Below.refl _ _).drew
  intro hHeld
  refine wpAnyH_take (i := 0) (v := ?_) rfl (by kernel_rfl) (by kernel_rfl) (by kernel_rfl) (fun _ _ _ h => h) (Or.inl ⟨by rfl, ?_⟩) (by assumption) ?_
  rotate_left
  · intro w hSw; (try dsimp only at hSw); go_simp; (try (with_reducible rfl))
  try simp only [List.getElem_toArray, List.getElem_cons_succ, List.getElem_cons_zero, Act.put, List.setIfInBounds_toArray, List.set_cons_zero, List.set_cons_succ]
  refine wpAnyH_take (i := 2) (v := ?_) rfl (by kernel_rfl) (by kernel_rfl) (by kernel_rfl) (fun _ _ _ h => h) (Or.inl ⟨by rfl, ?_⟩) (by assumption) ?_
  rotate_left
  · intro w hSw; (try dsimp only at hSw); go_simp; (try (with_reducible rfl))
  try simp only [List.getElem_toArray, List.getElem_cons_succ, List.getElem_cons_zero, Act.put, List.setIfInBounds_toArray, List.set_cons_zero, List.set_cons_succ]
  refine wpAnyH_take (i := 3) (v := ?_) rfl (by kernel_rfl) (by kernel_rfl) (by kernel_rfl) (fun _ _ _ h => h) (Or.inl ⟨by rfl, ?_⟩) (by assumption) ?_
  rotate_left
  · intro w hSw; (try dsimp only at hSw); go_simp; (try (with_reducible rfl))
  try simp only [List.getElem_toArray, List.getElem_cons_succ, List.getElem_cons_zero, Act.put, List.setIfInBounds_toArray, List.set_cons_zero, List.set_cons_succ]
  refine wpAnyH_take (i := 4) (v := ?_) rfl (by kernel_rfl) (by kernel_rfl) (by kernel_rfl) (fun _ _ _ h => h) (Or.inl ⟨by rfl, ?_⟩) (by assumption) ?_
  rotate_left
  · intro w hSw; (try dsimp only at hSw); go_simp; (try (with_reducible rfl))
  try simp only [List.getElem_toArray, List.getElem_cons_succ, List.getElem_cons_zero, Act.put, List.setIfInBounds_toArray, List.set_cons_zero, List.set_cons_succ]
  refine wpAnyH_take (i := 5) (v := ?_) rfl (by kernel_rfl) (by kernel_rfl) (by kernel_rfl) (fun _ _ _ h => h) (Or.inl ⟨by rfl, ?_⟩) (by assumption) ?_
  rotate_left
  · intro w hSw; (try dsimp only at hSw); go_simp; (try (with_reducible rfl))
  try simp only [List.getElem_toArray, List.getElem_cons_succ, List.getElem_cons_zero, Act.put, List.setIfInBounds_toArray, List.set_cons_zero, List.set_cons_succ]
  refine wpAnyH_take (i := 6) (v := ?_) rfl (by kernel_rfl) (by kernel_rfl) (by kernel_rfl) (fun _ _ _ h => h) (Or.inl ⟨by rfl, ?_⟩) (by assumption) ?_
  rotate_left
  · intro w hSw; (try dsimp only at hSw); go_simp; (try (with_reducible rfl))
  try simp only [List.getElem_toArray, List.getElem_cons_succ, List.getElem_cons_zero, Act.put, List.setIfInBounds_toArray, List.set_cons_zero, List.set_cons_succ]
  refine wpAnyH_ready (rs := [1]) (by kernel_rfl) (by simp) ?_
  refine (AllReadyH.cons rfl (fun K hK => ?_) AllReadyH.nil)
  go_simp
  go_at_call 11; refine (CCP.out _ (Fr4.out.below (Below.refl _ _).drew)).mono ?_; rintro e wy ⟨⟨A2, c2, rfl, hr1⟩, hb1⟩
  have hby : Below w4.heap.size w4 wy := ((Below.refl w4.heap.size w4).drew).trans (hb1.mono ((Below.refl w4.heap.size w4).drew).size)
  have HRY := Lib.hid hr1
  have HBY := Lib.hid hby
  clear hr1 hb1 hby
  go_wp2_with fail
  refine hK.out _ _ ?_ (fun hHeld => ?_)
  · clear hK K; exact HSB.out _ HBY.out
  clear hK K
  try simp only [List.getElem_toArray, List.getElem_cons_succ, List.getElem_cons_zero, Act.put, List.setIfInBounds_toArray, List.set_cons_zero, List.set_cons_succ]
  refine wpAnyH_ready (rs := [7]) (by kernel_rfl) (by simp) ?_
  refine (AllReadyH.cons rfl (fun K hK => ?_) AllReadyH.nil)
  go_simp
  go_at_call 12; refine (CRI.out _ _ _ (Fl4.out.later HBY.out) HRY.out).mono ?_; rintro e wz ⟨⟨A3, c3, rfl, hrr⟩, hb2⟩
  have hbz : Below w4.heap.size w4 wz := HBY.out.trans (hb2.mono HBY.out.size)
  have HBZ := Lib.hid hbz
  have HRR := Lib.hid hrr
  clear hrr
  clear hb2 hbz
  go_wp2_with fail
  refine hK.out _ _ ?_ (fun hHeld => ?_)
  · clear hK K; exact HSB.out _ HBZ.out
  clear hK K
  try simp only [List.getElem_toArray, List.getElem_cons_succ, List.getElem_cons_zero, Act.put, List.setIfInBounds_toArray, List.set_cons_zero, List.set_cons_succ]
  refine wpAnyH_take (i := 8) (v := ?_) rfl (by kernel_rfl) (by kernel_rfl) (by kernel_rfl) (fun _ _ _ h => h) (Or.inl ⟨by rfl, ?_⟩) (by assumption) ?_
  rotate_left
  · intro w hSw; (try dsimp only at hSw); go_simp; (try (with_reducible rfl))
  try simp only [List.getElem_toArray, List.getElem_cons_succ, List.getElem_cons_zero, Act.put, List.setIfInBounds_toArray, List.set_cons_zero, List.set_cons_succ]
  refine wpAnyH_take (i := 9) (v := ?_) rfl (by kernel_rfl) (by kernel_rfl) (by kernel_rfl) (fun _ _ _ h => h) (Or.inl ⟨by rfl, ?_⟩) (by assumption) ?_
  rotate_left
  · intro w hSw; (try dsimp only at hSw); go_simp; (try (with_reducible rfl))
  try simp only [List.getElem_toArray, List.getElem_cons_succ, List.getElem_cons_zero, Act.put, List.setIfInBounds_toArray, List.set_cons_zero, List.set_cons_succ]
  refine wpAnyH_take (i := 10) (v := ?_) rfl (by kernel_rfl) (by kernel_rfl) (by kernel_rfl) (fun _ _ _ h => h) (Or.inl ⟨by rfl, ?_⟩) (by assumption) ?_
  rotate_left
  · intro w hSw; (try dsimp only at hSw); go_simp; (try (with_reducible rfl))
  try simp only [List.getElem_toArray, List.getElem_cons_succ, List.getElem_cons_zero, Act.put, List.setIfInBounds_toArray, List.set_cons_zero, List.set_cons_succ]
  refine wpAnyH_take (i := 11) (v := ?_) rfl (by kernel_rfl) (by kernel_rfl) (by kernel_rfl) (fun _ _ _ h => h) (Or.inl ⟨by rfl, ?_⟩) (by assumption) ?_
  rotate_left
  · intro w hSw; (try dsimp only at hSw); go_simp; (try (with_reducible rfl))
  try simp only [List.getElem_toArray, List.getElem_cons_succ, List.getElem_cons_zero, Act.put, List.setIfInBounds_toArray, List.set_cons_zero, List.set_cons_succ]
  refine wpAnyH_take (i := 12) (v := ?_) rfl (by kernel_rfl) (by kernel_rfl) (by kernel_rfl) (fun _ _ _ h => h) (Or.inl ⟨by rfl, ?_⟩) (by assumption) ?_
  rotate_left
  · intro w hSw; (try dsimp only at hSw); go_simp; (try (with_reducible rfl))
  try simp only [List.getElem_toArray, List.getElem_cons_succ, List.getElem_cons_zero, Act.put, List.setIfInBounds_toArray, List.set_cons_zero, List.set_cons_succ]
  refine wpAnyH_done (by kernel_rfl) ?_ _
  obtain ⟨w5, hw5⟩ : ∃ W, W = wz := ⟨_, rfl⟩
  subst hw5
  clear hHeld HSB HRY HBY
  clear i0 v0 v1 v2 v3 v4 v5
  have Fi5 := Lib.hid (Fi4.out.later HBZ.out)
  have Fv5 := Lib.hid (Fv4.out.later HBZ.out)
  have Fl5 := Lib.hid (Fl4.out.later HBZ.out)
  have Fo5 := Lib.hid (Fo4.out.below HBZ.out)
  have Fr5 := Lib.hid (Fr4.out.below HBZ.out)
  have low5 := Lib.hid (low4.out.trans (HBZ.out.mono low4.out.size))
  clear HBZ Fi4 Fv4 Fl4 Fo4 Fr4 low4
  have i0 : w5.cell? ⟨w.heap.size, 0, none⟩ = some (.slice A n c) := by rw [Fi5.out.cell]; rfl
  have v0 : w5.cell? ⟨w.heap.size + 1, 0, none⟩ = some (.int .i64 cx) := by rw [Fv5.out.cell]; rfl
  have v1 : w5.cell? ⟨w.heap.size + 1, 1, none⟩ = some (.int .i64 cy) := by rw [Fv5.out.cell]; rfl
  have v2 : w5.cell? ⟨w.heap.size + 1, 2, none⟩ = some (.int .i64 lo) := by rw [Fv5.out.cell]; rfl
  have v3 : w5.cell? ⟨w.heap.size + 1, 3, none⟩ = some (.int .i64 hi) := by rw [Fv5.out.cell]; rfl
  have v4 : w5.cell? ⟨w.heap.size + 1, 4, none⟩ = some (.int .i64 st) := by rw [Fv5.out.cell]; rfl
  have v5 : w5.cell? ⟨w.heap.size + 1, 5, none⟩ = some (.int .i64 rd) := by rw [Fv5.out.cell]; rfl
  have HSB : Hid (∀ W, Below w5.heap.size w5 W → (fun w' : World => w'.cell? ⟨w.heap.size, 0, none⟩ = some (.slice A n c) ∧ w'.cell? ⟨w.heap.size + 1, 0, none⟩ = some (.int .i64 cx) ∧ w'.cell? ⟨w.heap.size + 1, 1, none⟩ = some (.int .i64 cy) ∧ w'.cell? ⟨w.heap.size + 1, 2, none⟩ = some (.int .i64 lo) ∧ w'.cell? ⟨w.heap.size + 1, 3, none⟩ = some (.int .i64 hi) ∧ w'.cell? ⟨w.heap.size + 1, 4, none⟩ = some (.int .i64 st) ∧ w'.cell? ⟨w.heap.size + 1, 5, none⟩ = some (.int .i64 rd) ∧ Below w5.heap.size w5 w') W) := fun W hb => ⟨(hb.cell (p := ⟨w.heap.size, 0, none⟩) (Fi5.out.lt)).trans i0, (hb.cell (p := ⟨w.heap.size + 1, 0, none⟩) (Fv5.out.lt)).trans v0, (hb.cell (p := ⟨w.heap.size + 1, 1, none⟩) (Fv5.out.lt)).trans v1, (hb.cell (p := ⟨w.heap.size + 1, 2, none⟩) (Fv5.out.lt)).trans v2, (hb.cell (p := ⟨w.heap.size + 1, 3, none⟩) (Fv5.out.lt)).trans v3, (hb.cell (p := ⟨w.heap.size + 1, 4, none⟩) (Fv5.out.lt)).trans v4, (hb.cell (p := ⟨w.heap.size + 1, 5, none⟩) (Fv5.out.lt)).trans v5, hb⟩
  go_wp2_with fail
  refine wp_region_held_drew (S := (fun w' : World => w'.cell? ⟨w.heap.size, 0, none⟩ = some (.slice A n c) ∧ w'.cell? ⟨w.heap.size + 1, 0, none⟩ = some (.int .i64 cx) ∧ w'.cell? ⟨w.heap.size + 1, 1, none⟩ = some (.int .i64 cy) ∧ w'.cell? ⟨w.heap.size + 1, 2, none⟩ = some (.int .i64 lo) ∧ w'.cell? ⟨w.heap.size + 1, 3, none⟩ = some (.int .i64 hi) ∧ w'.cell? ⟨w.heap.size + 1, 4, none⟩ = some (.int .i64 st) ∧ w'.cell? ⟨w.heap.size + 1, 5, none⟩ = some (.int .i64 rd) ∧ Below w5.heap.size w5 w')) (by kernel_rfl) ?_ ?_
  · exact HSB.out _ (Below.refl _ _).drew
  intro hHeld
  refine wpAnyH_take (i := 0) (v := ?_) rfl (by kernel_rfl) (by kernel_rfl) (by kernel_rfl) (fun _ _ _ h => h) (Or.inl ⟨by rfl, ?_⟩) (by assumption) ?_
  rotate_left
  · intro w hSw; (try dsimp only at hSw); go_simp; (try (with_reducible rfl))
  try simp only [List.getElem_toArray, List.getElem_cons_succ, List.getElem_cons_zero, Act.put, List.setIfInBounds_toArray, List.set_cons_zero, List.set_cons_succ]
  refine wpAnyH_take (i := 2) (v := ?_) rfl (by kernel_rfl) (by kernel_rfl) (by kernel_rfl) (fun _ _ _ h => h) (Or.inl ⟨by rfl, ?_⟩) (by assumption) ?_
  rotate_left
  · intro w hSw; (try dsimp only at hSw); go_simp; (try (with_reducible rfl))
  try simp only [List.getElem_toArray, List.getElem_cons_succ, List.getElem_cons_zero, Act.put, List.setIfInBounds_toArray, List.set_cons_zero, List.set_cons_succ]
  refine wpAnyH_take (i := 3) (v := ?_) rfl (by kernel_rfl) (by kernel_rfl) (by kernel_rfl) (fun _ _ _ h => h) (Or.inl ⟨by rfl, ?_⟩) (by assumption) ?_
  rotate_left
  · intro w hSw; (try dsimp only at hSw); go_simp; (try (with_reducible rfl))
  try simp only [List.getElem_toArray, List.getElem_cons_succ, List.getElem_cons_zero, Act.put, List.setIfInBounds_toArray, List.set_cons_zero, List.set_cons_succ]
  refine wpAnyH_ready (rs := [1]) (by kernel_rfl) (by simp) ?_
  refine (AllReadyH.cons rfl (fun K hK => ?_) AllReadyH.nil)
  go_simp
  go_at_call 11; refine (CCP.out _ (Fr5.out.below (Below.refl _ _).drew)).mono ?_; rintro e wy ⟨⟨A4, c4, rfl, hr1⟩, hb1⟩
  have hby : Below w5.heap.size w5 wy := ((Below.refl w5.heap.size w5).drew).trans (hb1.mono ((Below.refl w5.heap.size w5).drew).size)
  have HRY := Lib.hid hr1
  have HBY := Lib.hid hby
  clear hr1 hb1 hby
  go_wp2_with fail
  refine hK.out _ _ ?_ (fun hHeld => ?_)
  · clear hK K; exact HSB.out _ HBY.out
  clear hK K
  try simp only [List.getElem_toArray, List.getElem_cons_succ, List.getElem_cons_zero, Act.put, List.setIfInBounds_toArray, List.set_cons_zero, List.set_cons_succ]
  refine wpAnyH_ready (rs := [4]) (by kernel_rfl) (by simp) ?_
  refine (AllReadyH.cons rfl (fun K hK => ?_) AllReadyH.nil)
  go_simp
  go_at_call 13; refine (CUN.out _ _ _ (Fl5.out.later HBY.out) HRY.out).mono ?_; rintro e wz ⟨⟨A5, c5, rfl, hru⟩, hb2⟩
  have hbz : Below w5.heap.size w5 wz := HBY.out.trans (hb2.mono HBY.out.size)
  have HBZ := Lib.hid hbz
  have HRU := Lib.hid hru
  clear hru
  clear hb2 hbz
  go_wp2_with fail
  refine hK.out _ _ ?_ (fun hHeld => ?_)
  · clear hK K; exact HSB.out _ HBZ.out
  clear hK K
  try simp only [List.getElem_toArray, List.getElem_cons_succ, List.getElem_cons_zero, Act.put, List.setIfInBounds_toArray, List.set_cons_zero, List.set_cons_succ]
  refine wpAnyH_take (i := 5) (v := ?_) rfl (by kernel_rfl) (by kernel_rfl) (by kernel_rfl) (fun _ _ _ h => h) (Or.inl ⟨by rfl, ?_⟩) (by assumption) ?_
  rotate_left
  · intro w hSw; (try dsimp only at hSw); go_simp; (try (with_reducible rfl))
  try simp only [List.getElem_toArray, List.getElem_cons_succ, List.getElem_cons_zero, Act.put, List.setIfInBounds_toArray, List.set_cons_zero, List.set_cons_succ]
  refine wpAnyH_take (i := 6) (v := ?_) rfl (by kernel_rfl) (by kernel_rfl) (by kernel_rfl) (fun _ _ _ h => h) (Or.inl ⟨by rfl, ?_⟩) (by assumption) ?_
  rotate_left
  · intro w hSw; (try dsimp only at hSw); go_simp; (try (with_reducible rfl))
  try simp only [List.getElem_toArray, List.getElem_cons_succ, List.getElem_cons_zero, Act.put, List.setIfInBounds_toArray, List.set_cons_zero, List.set_cons_succ]
  refine wpAnyH_take (i := 7) (v := ?_) rfl (by kernel_rfl) (by kernel_rfl) (by kernel_rfl) (fun _ _ _ h => h) (Or.inl ⟨by rfl, ?_⟩) (by assumption) ?_
  rotate_left
  · intro w hSw; (try dsimp only at hSw); go_simp; (try (with_reducible rfl))
  try simp only [List.getElem_toArray, List.getElem_cons_succ, List.getElem_cons_zero, Act.put, List.setIfInBounds_toArray, List.set_cons_zero, List.set_cons_succ]
  refine wpAnyH_take (i := 8) (v := ?_) rfl (by kernel_rfl) (by kernel_rfl) (by kernel_rfl) (fun _ _ _ h => h) (Or.inl ⟨by rfl, ?_⟩) (by assumption) ?_
  rotate_left
  · intro w hSw; (try dsimp only at hSw); go_simp; (try (with_reducible rfl))
  try simp only [List.getElem_toArray, List.getElem_cons_succ, List.getElem_cons_zero, Act.put, List.setIfInBounds_toArray, List.set_cons_zero, List.set_cons_succ]
  refine wpAnyH_take (i := 9) (v := ?_) rfl (by kernel_rfl) (by kernel_rfl) (by kernel_rfl) (fun _ _ _ h => h) (Or.inl ⟨by rfl, ?_⟩) (by assumption) ?_
  rotate_left
  · intro w hSw; (try dsimp only at hSw); go_simp; (try (with_reducible rfl))
  try simp only [List.getElem_toArray, List.getElem_cons_succ, List.getElem_cons_zero, Act.put, List.setIfInBounds_toArray, List.set_cons_zero, List.set_cons_succ]
  refine wpAnyH_done (by kernel_rfl) ?_ _
  obtain ⟨w6, hw6⟩ : ∃ W, W = wz := ⟨_, rfl⟩
  subst hw6
  clear hHeld HSB HRY HBY
  clear i0 v0 v1 v2 v3 v4 v5
  have Fi6 := Lib.hid (Fi5.out.later HBZ.out)
  have Fv6 := Lib.hid (Fv5.out.later HBZ.out)
  have Fl6 := Lib.hid (Fl5.out.later HBZ.out)
  have Fo6 := Lib.hid (Fo5.out.below HBZ.out)
  have Fr6 := Lib.hid (Fr5.out.below HBZ.out)
  have Fp6 := Lib.hid (HRR.out.below HBZ.out)
  have low6 := Lib.hid (low5.out.trans (HBZ.out.mono low5.out.size))
  clear HBZ Fi5 Fv5 Fl5 Fo5 Fr5 HRR low5
  have i0 : w6.cell? ⟨w.heap.size, 0, none⟩ = some (.slice A n c) := by rw [Fi6.out.cell]; rfl
  have v0 : w6.cell? ⟨w.heap.size + 1, 0, none⟩ = some (.int .i64 cx) := by rw [Fv6.out.cell]; rfl
  have v1 : w6.cell? ⟨w.heap.size + 1, 1, none⟩ = some (.int .i64 cy) := by rw [Fv6.out.cell]; rfl
  have v2 : w6.cell? ⟨w.heap.size + 1, 2, none⟩ = some (.int .i64 lo) := by rw [Fv6.out.cell]; rfl
  have v3 : w6.cell? ⟨w.heap.size + 1, 3, none⟩ = some (.int .i64 hi) := by rw [Fv6.out.cell]; rfl
  have v4 : w6.cell? ⟨w.heap.size + 1, 4, none⟩ = some (.int .i64 st) := by rw [Fv6.out.cell]; rfl
  have v5 : w6.cell? ⟨w.heap.size + 1, 5, none⟩ = some (.int .i64 rd) := by rw [Fv6.out.cell]; rfl
  go_wp2_with fail
  refine (CIE.out _ Fr6.out).mono ?_
  rintro e w7 ⟨rfl, hb7⟩
  clear i0 v0 v1 v2 v3 v4 v5
  have Fi7 := Lib.hid (Fi6.out.later hb7)
  have Fv7 := Lib.hid (Fv6.out.later hb7)
  have Fl7 := Lib.hid (Fl6.out.later hb7)
  have Fo7 := Lib.hid (Fo6.out.below hb7)
  have Fr7 := Lib.hid (Fr6.out.below hb7)
  have Fp7 := Lib.hid (Fp6.out.below hb7)
  have Fu7 := Lib.hid (HRU.out.below hb7)
  have low7 := Lib.hid (low6.out.trans (hb7.mono low6.out.size))
  clear Fi6 Fv6 Fl6 Fo6 Fr6 Fp6 HRU low6 hb7
  have i0 : w7.cell? ⟨w.heap.size, 0, none⟩ = some (.slice A n c) := by rw [Fi7.out.cell]; rfl
  have v0 : w7.cell? ⟨w.heap.size + 1, 0, none⟩ = some (.int .i64 cx) := by rw [Fv7.out.cell]; rfl
  have v1 : w7.cell? ⟨w.heap.size + 1, 1, none⟩ = some (.int .i64 cy) := by rw [Fv7.out.cell]; rfl
  have v2 : w7.cell? ⟨w.heap.size + 1, 2, none⟩ = some (.int .i64 lo) := by rw [Fv7.out.cell]; rfl
  have v3 : w7.cell? ⟨w.heap.size + 1, 3, none⟩ = some (.int .i64 hi) := by rw [Fv7.out.cell]; rfl
  have v4 : w7.cell? ⟨w.heap.size + 1, 4, none⟩ = some (.int .i64 st) := by rw [Fv7.out.cell]; rfl
  have v5 : w7.cell? ⟨w.heap.size + 1, 5, none⟩ = some (.int .i64 rd) := by rw [Fv7.out.cell]; rfl
  go_wp2_with fail
  refine (CRR.out _ Fr7.out).mono ?_
  rintro e w8 ⟨⟨A6, c6, rfl, hr6⟩, hb8⟩
  clear i0 v0 v1 v2 v3 v4 v5
  have Fi8 := Lib.hid (Fi7.out.later hb8)
  have Fv8 := Lib.hid (Fv7.out.later hb8)
  have Fl8 := Lib.hid (Fl7.out.later hb8)
  have Fo8 := Lib.hid (Fo7.out.below hb8)
  have Fr8 := Lib.hid (Fr7.out.below hb8)
  have Fp8 := Lib.hid (Fp7.out.below hb8)
  have Fu8 := Lib.hid (Fu7.out.below hb8)
  have low8 := Lib.hid (low7.out.trans (hb8.mono low7.out.size))
  have Fq8 := Lib.hid hr6
  clear hr6
  clear Fi7 Fv7 Fl7 Fo7 Fr7 Fp7 Fu7 low7 hb8
  have i0 : w8.cell? ⟨w.heap.size, 0, none⟩ = some (.slice A n c) := by rw [Fi8.out.cell]; rfl
  have v0 : w8.cell? ⟨w.heap.size + 1, 0, none⟩ = some (.int .i64 cx) := by rw [Fv8.out.cell]; rfl
  have v1 : w8.cell? ⟨w.heap.size + 1, 1, none⟩ = some (.int .i64 cy) := by rw [Fv8.out.cell]; rfl
  have v2 : w8.cell? ⟨w.heap.size + 1, 2, none⟩ = some (.int .i64 lo) := by rw [Fv8.out.cell]; rfl
  have v3 : w8.cell? ⟨w.heap.size + 1, 3, none⟩ = some (.int .i64 hi) := by rw [Fv8.out.cell]; rfl
  have v4 : w8.cell? ⟨w.heap.size + 1, 4, none⟩ = some (.int .i64 st) := by rw [Fv8.out.cell]; rfl
  have v5 : w8.cell? ⟨w.heap.size + 1, 5, none⟩ = some (.int .i64 rd) := by rw [Fv8.out.cell]; rfl
  go_wp2_with fail
  refine (CIN.out _ _ _ _ _ Fp8.out Fq8.out).mono ?_
  rintro e w9 ⟨rfl, hb9⟩
  clear i0 v0 v1 v2 v3 v4 v5
  have Fi9 := Lib.hid (Fi8.out.later hb9)
  have Fv9 := Lib.hid (Fv8.out.later hb9)
  have Fl9 := Lib.hid (Fl8.out.later hb9)
  have Fo9 := Lib.hid (Fo8.out.below hb9)
  have Fr9 := Lib.hid (Fr8.out.below hb9)
  have Fp9 := Lib.hid (Fp8.out.below hb9)
  have Fu9 := Lib.hid (Fu8.out.below hb9)
  have Fq9 := Lib.hid (Fq8.out.below hb9)
  have low9 := Lib.hid (low8.out.trans (hb9.mono low8.out.size))
  clear Fi8 Fv8 Fl8 Fo8 Fr8 Fp8 Fu8 Fq8 low8 hb9
  have i0 : w9.cell? ⟨w.heap.size, 0, none⟩ = some (.slice A n c) := by rw [Fi9.out.cell]; rfl
  have v0 : w9.cell? ⟨w.heap.size + 1, 0, none⟩ = some (.int .i64 cx) := by rw [Fv9.out.cell]; rfl
  have v1 : w9.cell? ⟨w.heap.size + 1, 1, none⟩ = some (.int .i64 cy) := by rw [Fv9.out.cell]; rfl
  have v2 : w9.cell? ⟨w.heap.size + 1, 2, none⟩ = some (.int .i64 lo) := by rw [Fv9.out.cell]; rfl
  have v3 : w9.cell? ⟨w.heap.size + 1, 3, none⟩ = some (.int .i64 hi) := by rw [Fv9.out.cell]; rfl
  have v4 : w9.cell? ⟨w.heap.size + 1, 4, none⟩ = some (.int .i64 st) := by rw [Fv9.out.cell]; rfl
  have v5 : w9.cell? ⟨w.heap.size + 1, 5, none⟩ = some (.int .i64 rd) := by rw [Fv9.out.cell]; rfl
  go_wp2_with fail
  refine (CRU.out _ Fr9.out).mono ?_
  rintro e w10 ⟨⟨A7, c7, rfl, hr7⟩, hb10⟩
  clear i0 v0 v1 v2 v3 v4 v5
  have Fi10 := Lib.hid (Fi9.out.later hb10)
  have Fv10 := Lib.hid (Fv9.out.later hb10)
  have Fl10 := Lib.hid (Fl9.out.later hb10)
  have Fo10 := Lib.hid (Fo9.out.below hb10)
  have Fr10 := Lib.hid (Fr9.out.below hb10)
  have Fp10 := Lib.hid (Fp9.out.below hb10)
  have Fu10 := Lib.hid (Fu9.out.below hb10)
  have Fq10 := Lib.hid (Fq9.out.below hb10)
  have low10 := Lib.hid (low9.out.trans (hb10.mono low9.out.size))
  have Ft10 := Lib.hid hr7
  clear hr7
  clear Fi9 Fv9 Fl9 Fo9 Fr9 Fp9 Fu9 Fq9 low9 hb10
  have i0 : w10.cell? ⟨w.heap.size, 0, none⟩ = some (.slice A n c) := by rw [Fi10.out.cell]; rfl
  have v0 : w10.cell? ⟨w.heap.size + 1, 0, none⟩ = some (.int .i64 cx) := by rw [Fv10.out.cell]; rfl
  have v1 : w10.cell? ⟨w.heap.size + 1, 1, none⟩ = some (.int .i64 cy) := by rw [Fv10.out.cell]; rfl
  have v2 : w10.cell? ⟨w.heap.size + 1, 2, none⟩ = some (.int .i64 lo) := by rw [Fv10.out.cell]; rfl
  have v3 : w10.cell? ⟨w.heap.size + 1, 3, none⟩ = some (.int .i64 hi) := by rw [Fv10.out.cell]; rfl
  have v4 : w10.cell? ⟨w.heap.size + 1, 4, none⟩ = some (.int .i64 st) := by rw [Fv10.out.cell]; rfl
  have v5 : w10.cell? ⟨w.heap.size + 1, 5, none⟩ = some (.int .i64 rd) := by rw [Fv10.out.cell]; rfl
  go_wp2_with fail
  refine (lists_same _ _ ul _ _ ux _ Fu10.out Ft10.out (by omega)).mono ?_
  rintro e w11 ⟨rfl, hb11⟩
  clear i0 v0 v1 v2 v3 v4 v5
  have Fi11 := Lib.hid (Fi10.out.later hb11)
  have Fv11 := Lib.hid (Fv10.out.later hb11)
  have Fl11 := Lib.hid (Fl10.out.later hb11)
  have Fo11 := Lib.hid (Fo10.out.below hb11)
  have Fr11 := Lib.hid (Fr10.out.below hb11)
  have Fp11 := Lib.hid (Fp10.out.below hb11)
  have Fu11 := Lib.hid (Fu10.out.below hb11)
  have Fq11 := Lib.hid (Fq10.out.below hb11)
  have Ft11 := Lib.hid (Ft10.out.below hb11)
  have low11 := Lib.hid (low10.out.trans (hb11.mono low10.out.size))
  clear Fi10 Fv10 Fl10 Fo10 Fr10 Fp10 Fu10 Fq10 Ft10 low10 hb11
  have i0 : w11.cell? ⟨w.heap.size, 0, none⟩ = some (.slice A n c) := by rw [Fi11.out.cell]; rfl
  have v0 : w11.cell? ⟨w.heap.size + 1, 0, none⟩ = some (.int .i64 cx) := by rw [Fv11.out.cell]; rfl
  have v1 : w11.cell? ⟨w.heap.size + 1, 1, none⟩ = some (.int .i64 cy) := by rw [Fv11.out.cell]; rfl
  have v2 : w11.cell? ⟨w.heap.size + 1, 2, none⟩ = some (.int .i64 lo) := by rw [Fv11.out.cell]; rfl
  have v3 : w11.cell? ⟨w.heap.size + 1, 3, none⟩ = some (.int .i64 hi) := by rw [Fv11.out.cell]; rfl
  have v4 : w11.cell? ⟨w.heap.size + 1, 4, none⟩ = some (.int .i64 st) := by rw [Fv11.out.cell]; rfl
  have v5 : w11.cell? ⟨w.heap.size + 1, 5, none⟩ = some (.int .i64 rd) := by rw [Fv11.out.cell]; rfl
  go_wp2
  go_ret
  exact ⟨rfl, low11.out⟩

theorem vwX_length (rows : List (List Int)) (cx cy lo hi st : Int) : (vwX rows cx cy lo hi st).length ≤ 40 := by
  unfold vwX
  by_cases h : vwE rows cx cy lo hi st = 0
  · rw [if_pos h]
    unfold vwE at h
    by_cases h1 : ((1 ≤ lo ∧ lo ≤ 24) ∧ 1 ≤ hi ∧ hi ≤ 24) ∧ 1 ≤ st ∧ st ≤ 40
    · simp [unL]; omega
    · rw [if_neg h1] at h; omega
  · rw [if_neg h]; simp
theorem ringX_length (rows : List (List Int)) (cx cy r : Int) : (ringX rows cx cy r).length ≤ 192 ∨ gridE 24 24 rows ≠ 0 := by
  by_cases hg : gridE 24 24 rows = 0
  · left
    unfold ringX
    by_cases h : ringE rows cx cy r = 0
    · rw [if_pos h, List.length_map, ring_size]
      unfold ringE at h
      rw [if_pos hg] at h
      by_cases h1 : fromB 1 24 [r] = true
      · have := fromB_one.1 h1; omega
      · rw [if_neg h1] at h; omega
    · rw [if_neg h]; simp
  · exact .inr hg
theorem rings_walk (A : Option Addr) (n c : Nat) (rows : List (List Int)) (cx cy lo hi st rd : Int) (w : World) (hl : LaidSides w) (hr : RdGo w A n rows) :
    Calls Tryd.prog 3 #[.agg #[.slice A n c], .agg #[.int .i64 cx, .int .i64 cy, .int .i64 lo, .int .i64 hi, .int .i64 st, .int .i64 rd]] w fun e w' => e = .returned (.bool true) ∧ Below w.heap.size w w' := by
  cases hgb : gridB 24 24 rows with
  | false => exact rings_wide A n c rows cx cy lo hi st rd w hl hr hgb
  | true =>
    obtain ⟨h1, h2⟩ := gridB_parts hgb
    rw [hr.1] at h1 h2
    have hm203 : ∀ j, j < n → (rows.getD j []).length ≤ 203 := fun j hj => by have := h2 j hj; omega
    by_cases hE : gridE 24 24 rows = 0
    · have hx := vwX_length rows cx cy lo hi st
      have hy := (ringX_length rows cx cy rd).resolve_right (by simpa using hE)
      exact rings_ok A n c rows cx cy lo hi st rd w hl hr hgb h1 hm203 hE _ _ _ _ _ _ rfl rfl rfl rfl rfl rfl (by omega) (by omega)
    · exact rings_err A n c rows cx cy lo hi st rd w hl hr hgb h1 hm203 _ rfl hE

end Go.Proofs.YtofdjapbofagiaaDoor
