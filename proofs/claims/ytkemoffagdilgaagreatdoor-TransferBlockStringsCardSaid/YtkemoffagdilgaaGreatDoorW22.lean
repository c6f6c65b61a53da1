import Derived.Test.YtkemoffagdilgaaGreatDoorW21
namespace Go.Proofs.YtkemoffagdilgaaGreatDoor
open Go.RowKit

theorem RdI.drew {w : World} {A : Option Addr} {n : Nat} {xs : List Int} (h : RdI w A n xs) : RdI w.drew A n xs := h

theorem lit24 (w : World) : RdI (w.alloc (.cells #[.int .i64 1, .int .i64 0, .int .i64 0, .int .i64 0, .int .i64 0, .int .i64 0, .int .i64 0, .int .i64 1, .int .i64 1, .int .i64 1, .int .i64 1, .int .i64 1, .int .i64 1, .int .i64 0, .int .i64 1, .int .i64 1, .int .i64 1, .int .i64 0, .int .i64 0, .int .i64 0, .int .i64 0, .int .i64 0, .int .i64 0, .int .i64 0] 3)) (some ⟨w.heap.size, 0, none⟩) 24 bits24 := by
  refine ⟨rfl, fun _ => ⟨_, rfl, by simp, fun j hj => ?_⟩⟩
  have hadd : (⟨w.heap.size, 0, none⟩ : Addr).add j = ⟨w.heap.size, j, none⟩ := by unfold Addr.add; split <;> simp_all
  rw [hadd, cell_of_row _ _ _ _ _ (0, 0) (heap_alloc_new w _)]
  rw [← Array.getElem?_toList]
  show (bits24.map (Value.int .i64))[j]? = _
  have h24 : bits24.length = 24 := rfl
  simp [List.getElem?_eq_getElem (show j < bits24.length by omega)]

set_option maxRecDepth 100000 in
set_option maxHeartbeats 2000000 in
theorem awake_any (w : World) (hw : Laid w) :
    Calls Tryz.prog 4 #[] w fun e w' => e = .returned (.bool true) ∧ Below w.heap.size w w' := by
  have HW := Lib.hid hw; clear hw
  go_enter Tryz.func4, Tryz.ntmps4
  go_wp2_with fail
  refine (lp_samples _).mono ?_
  rintro e w1 ⟨rfl, hb1⟩
  have l1 := Lib.hid hb1
  clear hb1
  go_wp2_with fail
  have F1 : Bk (w1.alloc (.cells #[.int .i64 86400, .int .i64 1] 35)) w1.heap.size 35 #[.int .i64 86400, .int .i64 1] := Bk.new _ _ _
  have l2 : Hid (Below w.heap.size w (w1.alloc (.cells #[.int .i64 86400, .int .i64 1] 35))) := l1.out.alloc l1.out.size _
  have HF1 := Lib.hid F1
  clear F1
  refine (ex_packed _ (HW.out.later l2.out)).mono ?_
  rintro e w3 ⟨⟨A, c, rfl, hr3⟩, hb3⟩
  have l3 : Hid (Below w.heap.size w w3) := l2.out.trans (hb3.mono l2.out.size)
  have F3 := Lib.hid (HF1.out.below hb3 (by simp))
  have R3 := Lib.hid hr3
  clear hr3 hb3 l2 HF1
  go_wp2_with fail
  refine (ex_inverse _).mono ?_
  rintro e w4 ⟨rfl, hb4⟩
  have l4 : Hid (Below w.heap.size w w4) := l3.out.trans (hb4.mono l3.out.size)
  have F4 := Lib.hid (F3.out.below hb4 F3.out.lt)
  have R4 := Lib.hid (R3.out.below hb4)
  clear hb4 l3 F3 R3
  go_wp2_with fail
  refine (ex_sum _).mono ?_
  rintro e w5 ⟨rfl, hb5⟩
  have l5 : Hid (Below w.heap.size w w5) := l4.out.trans (hb5.mono l4.out.size)
  have F5 := F4.out.below hb5 F4.out.lt
  have R5 := Lib.hid (R4.out.below hb5)
  clear hb5 l4 F4 R4
  have z5 : w1.heap.size < w5.heap.size := F5.lt
  have q1 := F5.cell 0
  have q2 := F5.cell 1
  simp at q1 q2
  clear F5
  go_wp2_with fail
  go_region_held3 (fun w' => w'.cell? ⟨w1.heap.size, 0, none⟩ = some (.int .i64 86400) ∧ w'.cell? ⟨w1.heap.size, 1, none⟩ = some (.int .i64 1) ∧ w1.heap.size < w'.heap.size)
    ((go_split_ands; refine ⟨?_, ?_, ?_⟩ <;> first | assumption | (rw [hb.cell (by first | assumption | (simp; done) | (simp; omega))]; first | assumption | (simp [go_sem]; done)) | exact Nat.lt_of_lt_of_le (by first | assumption | simp) hb.size | (go_keep; done) | (simp; omega)))
    (first
      | (go_at_call 14; refine (whole_any _ _).mono ?_; rintro e w' ⟨rfl, hb⟩)
      | (go_at_call 15; refine (ints_any _ _ _ _ _ _ bits24 bits24 _ ((R5.out.drew.below hb).below ((Below.refl _ _).alloc (Nat.le_refl _) _)) (lit24 _) (by omega) (by omega)).mono ?_; rintro e w' ⟨rfl, kk, rfl⟩))
  go_wp2
  go_ret
  refine ⟨rfl, ?_⟩
  have m1 := (l5.out.drew).trans (hb.mono (by have := l5.out.size; simpa using this))
  have m2 := m1.size
  first
    | exact blw_drewN (m1.alloc m2 _) _
    | exact (blw_drewN m1 _).alloc (by simpa using m2) _

end Go.Proofs.YtkemoffagdilgaaGreatDoor
