import Derived.Test.YtpkjkegcdddimaaDoorGJ
import Derived.Test.YtpkjkegcdddimaaDoorT2
import Derived.Test.YtpkjkegcdddimaaDoorR5
namespace Go.Proofs.YtpkjkegcdddimaaDoor
open Go.RowKit

theorem OwnL.far {w : World} {base : Nat} {p : Value} {n : Nat} {rows : List (List Int)} (h : OwnL w base p n rows) (a : Addr) (u : Value) (ha : a.block < base) : OwnL (w.setCell a u) base p n rows := by
  obtain ⟨vs, h1, h2⟩ := h
  have hk : ∀ {t k : Nat} {x : Value} {xs : List Value}, w.ownsRow base t 1 x k xs → (w.setCell a u).ownsRow base t 1 x k xs := fun {t k x xs} ho => ho.kept (grownBy_setCellG w a u) (by
    cases hb : x.ownBlock with
    | none => exact .inl rfl
    | some g => exact .inr (by intro e; injection e with e; have := (ho.lt g hb).1; omega))
  exact ⟨vs, hk h1, fun j hj => by obtain ⟨x, a1, a2⟩ := h2 j hj; exact ⟨x, a1, hk a2⟩⟩

set_option maxRecDepth 100000 in
set_option maxHeartbeats 2000000 in
theorem copyTask_any (A : Option Addr) (n c : Nat) (rows : List (List Int)) (b : Int) (w : World) (hr : RdGN w A n rows) (hn : n ≤ 1000000) (hm : ∀ j, j < n → (rows.getD j []).length ≤ 203) :
    Calls Tryd.prog 23 #[.agg #[.slice A n c, .int .i64 b]] w fun e w' => (∃ A' c', e = .returned (.agg #[.slice A' n c', .int .i64 b]) ∧ RdGN w' A' n rows) ∧ Below w.heap.size w w' := by
  have HRL : Hid (rows.length = n) := hr.1
  have HM := Lib.hid hm
  have hb0 : Below w.heap.size w ((w.alloc (.cells #[.slice A n c, .int .i64 b] 58)).alloc (.cells #[.slice none 0 0, .int .i64 0] 58)) := ((Below.refl _ _).alloc (Nat.le_refl _) _).alloc (by simp) _
  have CC := Lib.hid (copyLists_any A n c rows _ (hr.below hb0) hn hm)
  have HB0 := Lib.hid hb0
  clear hr hb0 hm
  go_enter Tryd.func23, Tryd.ntmps23
  go_wp2_with fail
  refine CC.out.mono ?_
  rintro e w1 ⟨⟨v, rfl, ho⟩, hb⟩
  have c0 : w1.cell? ⟨w.heap.size, 0, none⟩ = some (.slice A n c) := (hb.cell (p := ⟨w.heap.size, 0, none⟩) (by simp only [World.size_alloc]; omega)).trans (by simp [go_sem])
  have c1 : w1.cell? ⟨w.heap.size, 1, none⟩ = some (.int .i64 b) := (hb.cell (p := ⟨w.heap.size, 1, none⟩) (by simp only [World.size_alloc]; omega)).trans (by simp [go_sem])
  have d0 : w1.cell? ⟨w.heap.size + 1, 0, none⟩ = some (.slice none 0 0) := (hb.cell (p := ⟨w.heap.size + 1, 0, none⟩) (by simp only [World.size_alloc]; omega)).trans (by simp [go_sem])
  have d1 : w1.cell? ⟨w.heap.size + 1, 1, none⟩ = some (.int .i64 0) := (hb.cell (p := ⟨w.heap.size + 1, 1, none⟩) (by simp only [World.size_alloc]; omega)).trans (by simp [go_sem])
  have f0 : w1.frozen? ⟨w.heap.size, 0, none⟩ = false := (hb.frozen (p := ⟨w.heap.size, 0, none⟩) (by simp only [World.size_alloc]; omega)).trans (by simp [go_sem])
  have f2 : w1.frozen? ⟨w.heap.size + 1, 0, none⟩ = false := (hb.frozen (p := ⟨w.heap.size + 1, 0, none⟩) (by simp only [World.size_alloc]; omega)).trans (by simp [go_sem])
  have f3 : w1.frozen? ⟨w.heap.size + 1, 1, none⟩ = false := (hb.frozen (p := ⟨w.heap.size + 1, 1, none⟩) (by simp only [World.size_alloc]; omega)).trans (by simp [go_sem])
  have HO := Lib.hid ho
  have HB1 := Lib.hid hb
  obtain ⟨A', c', rfl, _⟩ := ho.read HRL.out HM.out
  clear ho hb CC
  go_wp2
  have h1 := ((HO.out.far ⟨w.heap.size, 0, none⟩ (.slice A' n c') (by simp only [World.size_alloc]; omega)).far ⟨w.heap.size + 1, 0, none⟩ (.slice A' n c') (by simp only [World.size_alloc]; omega)).far ⟨w.heap.size + 1, 1, none⟩ (.int .i64 b) (by simp only [World.size_alloc]; omega)
  obtain ⟨A2, c2, e2, h2⟩ := h1.read HRL.out HM.out
  cases e2
  have h3 := (((HB0.out.trans (HB1.out.mono HB0.out.size)).setCell (p := ⟨w.heap.size, 0, none⟩) (Nat.le_refl _) (.slice A' n c')).setCell (p := ⟨w.heap.size + 1, 0, none⟩) (Nat.le_succ _) (.slice A' n c')).setCell (p := ⟨w.heap.size + 1, 1, none⟩) (Nat.le_succ _) (.int .i64 b)
  refine bodyPost_ret (v := .agg #[.slice A' n c', .int .i64 b]) (by simp [results, Tryd.results23, go_sem, c0, c1, d0, d1]) rfl ⟨⟨A', c', rfl, h2⟩, h3⟩

set_option maxRecDepth 100000 in
set_option maxHeartbeats 2000000 in
theorem copyImage_any (A : Option Addr) (n c : Nat) (rows : List (List Int)) (w : World) (hr : RdGN w A n rows) (hn : n ≤ 1000000) (hm : ∀ j, j < n → (rows.getD j []).length ≤ 203) :
    Calls Tryd.prog 11 #[.agg #[.slice A n c]] w fun e w' => (∃ A' c', e = .returned (.agg #[.slice A' n c']) ∧ RdGN w' A' n rows) ∧ Below w.heap.size w w' := by
  have HRL : Hid (rows.length = n) := hr.1
  have HM := Lib.hid hm
  have hb0 : Below w.heap.size w ((w.alloc (.cells #[.slice A n c] 24)).alloc (.cells #[.slice none 0 0] 24)) := ((Below.refl _ _).alloc (Nat.le_refl _) _).alloc (by simp) _
  have CC := Lib.hid (copyLists_any A n c rows _ (hr.below hb0) hn hm)
  have HB0 := Lib.hid hb0
  clear hr hb0 hm
  go_enter Tryd.func11, Tryd.ntmps11
  go_wp2_with fail
  refine CC.out.mono ?_
  rintro e w1 ⟨⟨v, rfl, ho⟩, hb⟩
  have c0 : w1.cell? ⟨w.heap.size, 0, none⟩ = some (.slice A n c) := (hb.cell (p := ⟨w.heap.size, 0, none⟩) (by simp only [World.size_alloc]; omega)).trans (by simp [go_sem])
  have d0 : w1.cell? ⟨w.heap.size + 1, 0, none⟩ = some (.slice none 0 0) := (hb.cell (p := ⟨w.heap.size + 1, 0, none⟩) (by simp only [World.size_alloc]; omega)).trans (by simp [go_sem])
  have f0 : w1.frozen? ⟨w.heap.size, 0, none⟩ = false := (hb.frozen (p := ⟨w.heap.size, 0, none⟩) (by simp only [World.size_alloc]; omega)).trans (by simp [go_sem])
  have f2 : w1.frozen? ⟨w.heap.size + 1, 0, none⟩ = false := (hb.frozen (p := ⟨w.heap.size + 1, 0, none⟩) (by simp only [World.size_alloc]; omega)).trans (by simp [go_sem])
  have HO := Lib.hid ho
  have HB1 := Lib.hid hb
  obtain ⟨A', c', rfl, _⟩ := ho.read HRL.out HM.out
  clear ho hb CC
  go_wp2
  have h1 := HO.out.far ⟨w.heap.size + 1, 0, none⟩ (.slice A' n c') (by simp only [World.size_alloc]; omega)
  obtain ⟨A2, c2, e2, h2⟩ := h1.read HRL.out HM.out
  cases e2
  have h3 := (HB0.out.trans (HB1.out.mono HB0.out.size)).setCell (p := ⟨w.heap.size + 1, 0, none⟩) (Nat.le_succ _) (.slice A' n c')
  refine bodyPost_ret (v := .agg #[.slice A' n c']) (by simp [results, Tryd.results11, go_sem, c0, d0]) rfl ⟨⟨A', c', rfl, h2⟩, h3⟩

end Go.Proofs.YtpkjkegcdddimaaDoor

namespace Go.Proofs.YtpkjkegcdddimaaDoor
open Go.RowKit

theorem refBend_any (S : Value) (b x y : Int) (w : World) (hs : ∃ A n c, S = .slice A n c) :
    Calls Tryd.prog 70 #[.agg #[S, .int .i64 b], .int .i64 x, .int .i64 y] w fun e w' => e = .returned (.int .i64 (if x = y then 0 else b)) ∧ w' = w.alloc (.cells #[S, .int .i64 b] 58) := by
  obtain ⟨A, n, c, rfl⟩ := hs
  by_cases h : x = y
  · subst h
    go_enter Tryd.func70, Tryd.ntmps70
    go_wp2
    go_ret
    exact ⟨by simp, rfl⟩
  · have hb : (x == y) = false := by rw [beq_eq_false_iff_ne]; exact h
    have HT : Hid ((if x = y then (0 : Int) else b) = b) := if_neg h
    rw [HT.out]
    clear h
    go_enter Tryd.func70, Tryd.ntmps70
    go_wp2
    go_ret
    exact ⟨rfl, rfl⟩

end Go.Proofs.YtpkjkegcdddimaaDoor

