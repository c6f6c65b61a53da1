import Derived.Test.YtjjflbnopphciaaGreatDoorA1
namespace Go.Proofs.YtjjflbnopphciaaGreatDoor
open Go.RowKit

theorem LaidSides.later {w w' : World} (h : LaidSides w) (hb : Below w.heap.size w w') : LaidSides w' :=
  ⟨Nat.lt_of_lt_of_le h.lt hb.size, fun j hj => by
    obtain ⟨a, b, c⟩ := h.row j hj
    exact ⟨(hb.cell (p := ⟨_, _, none⟩) h.lt).trans a, (hb.cell (p := ⟨_, _, none⟩) h.lt).trans b, (hb.cell (p := ⟨_, _, none⟩) h.lt).trans c⟩⟩

theorem ex_ring (B : Nat) (w : World) (hl : LaidSides w) (hg : RdG w (some ⟨B, 0, none⟩) 3 imgRows) :
    Calls Tryz.prog 31 #[.agg #[.slice (some ⟨B, 0, none⟩) 3 3], .agg #[.int .i64 1, .int .i64 1], .int .i64 1] w fun e w' => (∃ A c, e = .returned (.tuple #[.slice A 8 c, .int .i64 0]) ∧ RdI w' A 8 [6, 9, 8, 7, 4, 1, 2, 3]) ∧ Below w.heap.size w w' := by
  refine (RingOf_any _ 3 3 imgRows 1 1 1 w hl hg (by omega)).mono ?_
  rintro e w' ⟨⟨v, rfl, ho⟩, hb⟩
  rw [v_ring.1]
  rw [v_ring.2] at ho
  obtain ⟨A, c, rfl, _, hr⟩ := rd_of_own ho
  exact ⟨⟨A, c, rfl, hr⟩, hb⟩
theorem ex_best (B : Nat) (w : World) (hg : RdG w (some ⟨B, 0, none⟩) 3 tskRows) :
    Calls Tryz.prog 20 #[.agg #[.slice (some ⟨B, 0, none⟩) 3 3, .int .i64 1]] w fun e w' => (∃ A c, e = .returned (.tuple #[.slice A 3 c, .int .i64 5, .int .i64 0]) ∧ RdI w' A 3 [1, 2, 1]) ∧ Below w.heap.size w w' := by
  refine (BestPath_any _ 3 3 tskRows 1 w hg (by omega)).mono ?_
  rintro e w' ⟨⟨v, rfl, ho⟩, hb⟩
  rw [v_best.1, v_best.2]
  rw [v_best.2] at ho
  obtain ⟨A, c, rfl, _, hr⟩ := rd_of_own ho
  exact ⟨⟨A, c, rfl, hr⟩, hb⟩
theorem ex_turn (B : Nat) (w : World) (hg : RdG w (some ⟨B, 0, none⟩) 3 tskRows) :
    Calls Tryz.prog 34 #[.agg #[.slice (some ⟨B, 0, none⟩) 3 3, .int .i64 1], .int .i64 (-1)] w fun e w' => (∃ A c, e = .returned (.tuple #[.slice A 3 c, .int .i64 12, .int .i64 0]) ∧ RdI w' A 3 [2, 2, 1]) ∧ Below w.heap.size w w' := by
  refine (TurnPath_any _ 3 3 tskRows 1 (-1) w hg (by omega)).mono ?_
  rintro e w' ⟨⟨v, rfl, ho⟩, hb⟩
  rw [v_turn.1, v_turn.2]
  rw [v_turn.2] at ho
  obtain ⟨A, c, rfl, _, hr⟩ := rd_of_own ho
  exact ⟨⟨A, c, rfl, hr⟩, hb⟩
theorem ex_bridge (w : World) (o : Obj) :
    Calls Tryz.prog 28 #[.slice (some ⟨w.heap.size, 0, none⟩) 5 5, .slice (some ⟨w.heap.size + 1, 0, none⟩) 1 1] ((w.alloc (.cells #[.int .i64 0, .int .i64 9, .int .i64 9, .int .i64 9, .int .i64 8] 3)).alloc (.cells #[.int .i64 1, .int .i64 3] 51)) fun e w' => (∃ A c, e = .returned (.tuple #[.slice A 5 c, .int .i64 0]) ∧ RdI w' A 5 [0, 2, 4, 6, 8]) ∧ Below w.heap.size w w' := by
  refine (Bridged_any _ 5 5 (w.heap.size + 1) 1 1 [0, 9, 9, 9, 8] [(1, 3)] _ ?_ ?_ (by omega) (by omega)).mono ?_
  · have := rd_of_bk (w := (w.alloc (.cells #[.int .i64 0, .int .i64 9, .int .i64 9, .int .i64 9, .int .i64 8] 3)).alloc (.cells #[.int .i64 1, .int .i64 3] 51)) (g := w.heap.size) (xs := [0, 9, 9, 9, 8]) (n := 5) ((Bk.new w _ _).alloc _) rfl
    exact this
  · refine ⟨rfl, fun _ => by simp, fun j hj => ?_⟩
    obtain rfl : j = 0 := by omega
    exact ⟨by simp [go_sem], by simp [go_sem]⟩
  rintro e w' ⟨⟨v, rfl, ho⟩, hb⟩
  rw [v_bridge.1]
  rw [v_bridge.2] at ho
  obtain ⟨A, c, rfl, _, hr⟩ := rd_of_own ho
  exact ⟨⟨A, c, rfl, hr⟩, (((Below.refl _ w).alloc (Nat.le_refl _) _).alloc (by simp) _).trans (hb.mono (by simp; omega))⟩
theorem ex_mat (w : World) :
    Calls Tryz.prog 35 #[.slice (some ⟨w.heap.size, 0, none⟩) 1 1] (w.alloc (.cells #[.int .i64 3, .int .i64 8] 83)) fun e w' => (∃ g c, e = .returned (.tuple #[.slice (some ⟨g, 0, none⟩) 1 c, .int .i64 0]) ∧ w'.cell? ⟨g, 0, none⟩ = some (.int .i64 11) ∧ w'.cell? ⟨g, 1, none⟩ = some (.int .i64 5)) ∧ Below w.heap.size w w' := by
  refine (MatrixOf_any w.heap.size 1 1 [(3, 8)] _ ?_ (by omega)).mono ?_
  · refine ⟨rfl, fun _ => by simp, fun j hj => ?_⟩
    obtain rfl : j = 0 := by omega
    exact ⟨by simp [go_sem], by simp [go_sem]⟩
  rintro e w' ⟨⟨v, rfl, ho⟩, hb⟩
  rw [v_mat.1]
  rw [v_mat.2] at ho
  obtain ⟨g, c, rfl⟩ := ownsRow_succ (k := 0) ho
  refine ⟨⟨g, c, rfl, ?_, ?_⟩, ((Below.refl _ w).alloc (Nat.le_refl _) _).trans (hb.mono (by simp))⟩
  · have := ho.cells (g := g) rfl 0 (.int .i64 11) rfl
    rwa [addOff] at this
  · have := ho.cells (g := g) rfl 1 (.int .i64 5) rfl
    rwa [addOff] at this

set_option maxRecDepth 100000 in
set_option maxHeartbeats 2000000 in
theorem awake_any (w : World) (hl : LaidSides w) :
    Calls Tryz.prog 5 #[] w fun e w' => e = .returned (.bool true) ∧ Below w.heap.size w w' := by
  have HL := Lib.hid hl
  clear hl
  go_enter Tryz.func5, Tryz.ntmps5
  go_wp2_with fail
  refine (Image_any _).mono ?_
  rintro e w1 ⟨⟨B1, rfl, hg1⟩, hb1⟩
  have l1 := Lib.hid hb1
  have C1 := Lib.hid (ex_ring B1 w1 (HL.out.later hb1) hg1)
  clear hb1 hg1
  go_wp2_with fail
  refine C1.out.mono ?_
  rintro e w2 ⟨⟨A2, c2, rfl, hr2⟩, hb2⟩
  have l2 := Lib.hid (l1.out.trans (hb2.mono l1.out.size))
  have R2 := Lib.hid hr2
  clear hr2 hb2 l1 C1
  go_wp2_with fail
  refine (Task_any _).mono ?_
  rintro e w3 ⟨⟨B3, rfl, hg3⟩, hb3⟩
  have l3 := Lib.hid (l2.out.trans (hb3.mono l2.out.size))
  have R3 := Lib.hid (R2.out.below hb3)
  have C3 := Lib.hid (ex_best B3 w3 hg3)
  clear hg3 hb3 l2 R2
  go_wp2_with fail
  refine C3.out.mono ?_
  rintro e w4 ⟨⟨A4, c4, rfl, hr4⟩, hb4⟩
  have l4 := Lib.hid (l3.out.trans (hb4.mono l3.out.size))
  have R4 := Lib.hid (R3.out.below hb4)
  have S4 := Lib.hid hr4
  clear hr4 hb4 l3 R3 C3
  go_wp2_with fail
  refine (Task_any _).mono ?_
  rintro e w5 ⟨⟨B5, rfl, hg5⟩, hb5⟩
  have l5 := Lib.hid (l4.out.trans (hb5.mono l4.out.size))
  have R5 := Lib.hid (R4.out.below hb5)
  have S5 := Lib.hid (S4.out.below hb5)
  have C5 := Lib.hid (ex_turn B5 w5 hg5)
  clear hg5 hb5 l4 R4 S4
  go_wp2_with fail
  refine C5.out.mono ?_
  rintro e w6 ⟨⟨A6, c6, rfl, hr6⟩, hb6⟩
  have l6 := Lib.hid (l5.out.trans (hb6.mono l5.out.size))
  have R6 := Lib.hid (R5.out.below hb6)
  have S6 := Lib.hid (S5.out.below hb6)
  have T6 := Lib.hid hr6
  clear hr6 hb6 l5 R5 S5 C5
  have C6 := Lib.hid (ex_bridge w6 default)
  go_wp2_with fail
  refine C6.out.mono ?_
  rintro e w7 ⟨⟨A7, c7, rfl, hr7⟩, hb7⟩
  have l7 := Lib.hid (l6.out.trans (hb7.mono l6.out.size))
  have R7 := Lib.hid (R6.out.below hb7)
  have S7 := Lib.hid (S6.out.below hb7)
  have T7 := Lib.hid (T6.out.below hb7)
  have U7 := Lib.hid hr7
  clear hr7 hb7 l6 R6 S6 T6 C6
  have C7 := Lib.hid (ex_mat w7)
  go_wp2_with fail
  refine C7.out.mono ?_
  rintro e w8 ⟨⟨g8, c8, rfl, k0, k1⟩, hb8⟩
  have l8 := Lib.hid (l7.out.trans (hb8.mono l7.out.size))
  have R8 := Lib.hid (R7.out.below hb8)
  have S8 := Lib.hid (S7.out.below hb8)
  have T8 := Lib.hid (T7.out.below hb8)
  have U8 := Lib.hid (U7.out.below hb8)
  have hz8 : g8 < w8.heap.size := World.block_lt_of_cell? _ _ k0
  have K0 := Lib.hid k0
  have K1 := Lib.hid k1
  clear k0 k1 hb8 l7 R7 S7 T7 U7 C7
  have lb9 : Below w8.heap.size w8 (w8.alloc (.cells #[.int .i64 6, .int .i64 9, .int .i64 8, .int .i64 7, .int .i64 4, .int .i64 1, .int .i64 2, .int .i64 3] 3)) := (Below.refl _ _).alloc (Nat.le_refl _) _
  have lit9 : RdI (w8.alloc (.cells #[.int .i64 6, .int .i64 9, .int .i64 8, .int .i64 7, .int .i64 4, .int .i64 1, .int .i64 2, .int .i64 3] 3)) (some ⟨w8.heap.size, 0, none⟩) 8 [6, 9, 8, 7, 4, 1, 2, 3] := rd_of_bk (xs := [6, 9, 8, 7, 4, 1, 2, 3]) (show Bk (w8.alloc (.cells #[.int .i64 6, .int .i64 9, .int .i64 8, .int .i64 7, .int .i64 4, .int .i64 1, .int .i64 2, .int .i64 3] 3)) w8.heap.size 3 (iArr [6, 9, 8, 7, 4, 1, 2, 3]) from Bk.new _ _ _) rfl
  have CI9 := Lib.hid (ints_any _ _ 8 8 c2 8 [6, 9, 8, 7, 4, 1, 2, 3] [6, 9, 8, 7, 4, 1, 2, 3] (w8.alloc (.cells #[.int .i64 6, .int .i64 9, .int .i64 8, .int .i64 7, .int .i64 4, .int .i64 1, .int .i64 2, .int .i64 3] 3)) (R8.out.below lb9) lit9 (by omega) (by omega))
  have LB9 := Lib.hid lb9
  clear lb9 lit9
  go_wp2_with fail
  refine CI9.out.mono ?_
  rintro e w' ⟨rfl, kk9, rfl⟩
  have hB9 : Below w8.heap.size w8 ((w8.alloc (.cells #[.int .i64 6, .int .i64 9, .int .i64 8, .int .i64 7, .int .i64 4, .int .i64 1, .int .i64 2, .int .i64 3] 3)).drewN kk9) := belowDrewN LB9.out kk9
  obtain ⟨w9, hw9⟩ : ∃ W, (w8.alloc (.cells #[.int .i64 6, .int .i64 9, .int .i64 8, .int .i64 7, .int .i64 4, .int .i64 1, .int .i64 2, .int .i64 3] 3)).drewN kk9 = W := ⟨_, rfl⟩
  rw [hw9] at hB9 ⊢
  have l9 := Lib.hid (l8.out.trans (hB9.mono l8.out.size))
  have S9 := Lib.hid (S8.out.below hB9)
  have T9 := Lib.hid (T8.out.below hB9)
  have U9 := Lib.hid (U8.out.below hB9)
  have K09 := Lib.hid ((hB9.cell (p := ⟨g8, 0, none⟩) (World.block_lt_of_cell? _ _ K0.out)).trans K0.out)
  have K19 := Lib.hid ((hB9.cell (p := ⟨g8, 1, none⟩) (World.block_lt_of_cell? _ _ K1.out)).trans K1.out)
  clear hw9 hB9 CI9 LB9 R8 S8 T8 U8 K0 K1 l8
  have lb10 : Below w9.heap.size w9 (w9.alloc (.cells #[.int .i64 1, .int .i64 2, .int .i64 1] 3)) := (Below.refl _ _).alloc (Nat.le_refl _) _
  have lit10 : RdI (w9.alloc (.cells #[.int .i64 1, .int .i64 2, .int .i64 1] 3)) (some ⟨w9.heap.size, 0, none⟩) 3 [1, 2, 1] := rd_of_bk (xs := [1, 2, 1]) (show Bk (w9.alloc (.cells #[.int .i64 1, .int .i64 2, .int .i64 1] 3)) w9.heap.size 3 (iArr [1, 2, 1]) from Bk.new _ _ _) rfl
  have CI10 := Lib.hid (ints_any _ _ 3 3 c4 3 [1, 2, 1] [1, 2, 1] (w9.alloc (.cells #[.int .i64 1, .int .i64 2, .int .i64 1] 3)) (S9.out.below lb10) lit10 (by omega) (by omega))
  have LB10 := Lib.hid lb10
  clear lb10 lit10
  go_wp2_with fail
  refine CI10.out.mono ?_
  rintro e w' ⟨rfl, kk10, rfl⟩
  have hB10 : Below w9.heap.size w9 ((w9.alloc (.cells #[.int .i64 1, .int .i64 2, .int .i64 1] 3)).drewN kk10) := belowDrewN LB10.out kk10
  obtain ⟨w10, hw10⟩ : ∃ W, (w9.alloc (.cells #[.int .i64 1, .int .i64 2, .int .i64 1] 3)).drewN kk10 = W := ⟨_, rfl⟩
  rw [hw10] at hB10 ⊢
  have l10 := Lib.hid (l9.out.trans (hB10.mono l9.out.size))
  have T10 := Lib.hid (T9.out.below hB10)
  have U10 := Lib.hid (U9.out.below hB10)
  have K010 := Lib.hid ((hB10.cell (p := ⟨g8, 0, none⟩) (World.block_lt_of_cell? _ _ K09.out)).trans K09.out)
  have K110 := Lib.hid ((hB10.cell (p := ⟨g8, 1, none⟩) (World.block_lt_of_cell? _ _ K19.out)).trans K19.out)
  clear hw10 hB10 CI10 LB10 S9 T9 U9 K09 K19 l9
  have lb11 : Below w10.heap.size w10 (w10.alloc (.cells #[.int .i64 2, .int .i64 2, .int .i64 1] 3)) := (Below.refl _ _).alloc (Nat.le_refl _) _
  have lit11 : RdI (w10.alloc (.cells #[.int .i64 2, .int .i64 2, .int .i64 1] 3)) (some ⟨w10.heap.size, 0, none⟩) 3 [2, 2, 1] := rd_of_bk (xs := [2, 2, 1]) (show Bk (w10.alloc (.cells #[.int .i64 2, .int .i64 2, .int .i64 1] 3)) w10.heap.size 3 (iArr [2, 2, 1]) from Bk.new _ _ _) rfl
  have CI11 := Lib.hid (ints_any _ _ 3 3 c6 3 [2, 2, 1] [2, 2, 1] (w10.alloc (.cells #[.int .i64 2, .int .i64 2, .int .i64 1] 3)) (T10.out.below lb11) lit11 (by omega) (by omega))
  have LB11 := Lib.hid lb11
  clear lb11 lit11
  go_wp2_with fail
  refine CI11.out.mono ?_
  rintro e w' ⟨rfl, kk11, rfl⟩
  have hB11 : Below w10.heap.size w10 ((w10.alloc (.cells #[.int .i64 2, .int .i64 2, .int .i64 1] 3)).drewN kk11) := belowDrewN LB11.out kk11
  obtain ⟨w11, hw11⟩ : ∃ W, (w10.alloc (.cells #[.int .i64 2, .int .i64 2, .int .i64 1] 3)).drewN kk11 = W := ⟨_, rfl⟩
  rw [hw11] at hB11 ⊢
  have l11 := Lib.hid (l10.out.trans (hB11.mono l10.out.size))
  have U11 := Lib.hid (U10.out.below hB11)
  have K011 := Lib.hid ((hB11.cell (p := ⟨g8, 0, none⟩) (World.block_lt_of_cell? _ _ K010.out)).trans K010.out)
  have K111 := Lib.hid ((hB11.cell (p := ⟨g8, 1, none⟩) (World.block_lt_of_cell? _ _ K110.out)).trans K110.out)
  clear hw11 hB11 CI11 LB11 T10 U10 K010 K110 l10
  have lb12 : Below w11.heap.size w11 (w11.alloc (.cells #[.int .i64 0, .int .i64 2, .int .i64 4, .int .i64 6, .int .i64 8] 3)) := (Below.refl _ _).alloc (Nat.le_refl _) _
  have lit12 : RdI (w11.alloc (.cells #[.int .i64 0, .int .i64 2, .int .i64 4, .int .i64 6, .int .i64 8] 3)) (some ⟨w11.heap.size, 0, none⟩) 5 [0, 2, 4, 6, 8] := rd_of_bk (xs := [0, 2, 4, 6, 8]) (show Bk (w11.alloc (.cells #[.int .i64 0, .int .i64 2, .int .i64 4, .int .i64 6, .int .i64 8] 3)) w11.heap.size 3 (iArr [0, 2, 4, 6, 8]) from Bk.new _ _ _) rfl
  have CI12 := Lib.hid (ints_any _ _ 5 5 c7 5 [0, 2, 4, 6, 8] [0, 2, 4, 6, 8] (w11.alloc (.cells #[.int .i64 0, .int .i64 2, .int .i64 4, .int .i64 6, .int .i64 8] 3)) (U11.out.below lb12) lit12 (by omega) (by omega))
  have LB12 := Lib.hid lb12
  clear lb12 lit12
  go_wp2_with fail
  refine CI12.out.mono ?_
  rintro e w' ⟨rfl, kk12, rfl⟩
  have hB12 : Below w11.heap.size w11 ((w11.alloc (.cells #[.int .i64 0, .int .i64 2, .int .i64 4, .int .i64 6, .int .i64 8] 3)).drewN kk12) := belowDrewN LB12.out kk12
  obtain ⟨w12, hw12⟩ : ∃ W, (w11.alloc (.cells #[.int .i64 0, .int .i64 2, .int .i64 4, .int .i64 6, .int .i64 8] 3)).drewN kk12 = W := ⟨_, rfl⟩
  rw [hw12] at hB12 ⊢
  have l12 := Lib.hid (l11.out.trans (hB12.mono l11.out.size))
  have K012 := Lib.hid ((hB12.cell (p := ⟨g8, 0, none⟩) (World.block_lt_of_cell? _ _ K011.out)).trans K011.out)
  have K112 := Lib.hid ((hB12.cell (p := ⟨g8, 1, none⟩) (World.block_lt_of_cell? _ _ K111.out)).trans K111.out)
  clear hw12 hB12 CI12 LB12 U11 K011 K111 l11
  have k0 := K012.out
  have k1 := K112.out
  go_wp2
  go_ret
  exact ⟨rfl, l12.out⟩

end Go.Proofs.YtjjflbnopphciaaGreatDoor
