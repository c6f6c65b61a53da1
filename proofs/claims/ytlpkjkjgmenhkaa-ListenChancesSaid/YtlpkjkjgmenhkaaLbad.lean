import Derived.Test.YtlpkjkjgmenhkaaLbac
namespace Go.Proofs.Ytlpkjkjgmenhkaa
open Go.RowKit

open Go.Shelf

set_option maxRecDepth 100000 in
set_option maxHeartbeats 4000000 in
theorem tails_2r (t r n d : Int) (w : World)
    (C1 : Hid (∀ w, Calls Try.prog 16 #[.int .i64 t, .int .i64 r] w fun e w' => e = .returned (.tuple #[.agg #[.int .i64 0, .int .i64 0], .int .i64 2]) ∧ Below w.heap.size w w'))
    (C2 : Hid (∀ w, Calls Try.prog 17 #[.int .i64 t, .agg #[.int .i64 n, .int .i64 d]] w fun e w' => e = .returned (.tuple #[.int .i64 0, .int .i64 2]) ∧ Below w.heap.size w w'))
    (C3 : Hid (∀ w, Calls Try.prog 18 #[.int .i64 t, .int .i64 r] w fun e w' => e = .returned (.int .i64 2) ∧ w = w'))
    (D1 : Hid (∀ w, Calls Try.prog 20 #[.int .i64 t] w fun e w' => e = .returned (.int .i64 2) ∧ w = w')) :
    Calls Try.prog 3 #[.int .i64 t, .int .i64 r, .agg #[.int .i64 n, .int .i64 d]] w fun e w' => e = .returned (.bool true) ∧ Below w.heap.size w w' := by
  have R0 := Lib.hid (OneB.start w 23 #[.int .i64 n, .int .i64 d])
  go_enter Try.func3, Try.ntmps3
  go_wp2_with fail
  refine (awake_any _).mono ?_
  rintro e w1 ⟨rfl, hb1⟩
  have R1 := Lib.hid (OneB.later hb1 R0.out)
  clear hb1 R0
  go_wp2_with fail
  refine (C1.out _).mono ?_
  rintro e w2 ⟨rfl, hb2⟩
  have R2 := Lib.hid (OneB.alloc (OneB.later hb2 R1.out) (.cells #[.int .i64 0, .int .i64 0] 23))
  have K2 := Lib.hid (Bk.new w2 23 #[.int .i64 0, .int .i64 0])
  clear hb2 R1 C1
  have c2 := bkf2 R2.out.k
  go_wp2_with fail
  obtain ⟨g2, hg2⟩ : ∃ g, w2.heap.size = g := ⟨_, rfl⟩
  obtain ⟨wA, hwA⟩ : ∃ W, w2.alloc (.cells #[.int .i64 0, .int .i64 0] 23) = W := ⟨_, rfl⟩
  rw [hwA] at R2 K2 c2 ⊢
  rw [hg2] at K2 ⊢
  clear hwA hg2 c2
  refine (C2.out _).mono ?_
  rintro e w3 ⟨rfl, hb3⟩
  have R3 := Lib.hid (OneB.later hb3 R2.out)
  have K3 := Lib.hid (K2.out.later hb3)
  clear hb3 R2 K2 C2
  go_wp2_with fail
  refine (C3.out _).mono ?_
  rintro e w' ⟨rfl, rfl⟩
  clear C3
  have c3 := bkf2 R3.out.k
  have k3 := bkf2 K3.out
  go_wp2
  go_quiet (fail)
  have R4 := Lib.hid (fun k => OneB.later (blw_drewN (Below.refl _ _) k) R3.out)
  clear R3 K3 k3
  go_wp2_with fail
  refine (D1.out _).mono ?_
  rintro e w' ⟨rfl, rfl⟩
  clear D1
  go_wp2
  go_ret
  exact ⟨rfl, (R4.out _).b⟩

set_option maxRecDepth 100000 in
set_option maxHeartbeats 4000000 in
theorem tails_2l (t r n d : Int) (w : World) (L : Int) (hL : L ≠ 0)
    (C1 : Hid (∀ w, Calls Try.prog 16 #[.int .i64 t, .int .i64 r] w fun e w' => e = .returned (.tuple #[.agg #[.int .i64 0, .int .i64 0], .int .i64 2]) ∧ Below w.heap.size w w'))
    (C2 : Hid (∀ w, Calls Try.prog 17 #[.int .i64 t, .agg #[.int .i64 n, .int .i64 d]] w fun e w' => e = .returned (.tuple #[.int .i64 0, .int .i64 L]) ∧ Below w.heap.size w w'))
    (C3 : Hid (∀ w, Calls Try.prog 18 #[.int .i64 t, .int .i64 r] w fun e w' => e = .returned (.int .i64 2) ∧ w = w'))
    (D1 : Hid (∀ w, Calls Try.prog 20 #[.int .i64 t] w fun e w' => e = .returned (.int .i64 0) ∧ w = w'))
    (D2 : Hid (∀ w, Calls Try.prog 21 #[.agg #[.int .i64 n, .int .i64 d]] w fun e w' => e = .returned (.int .i64 L) ∧ Below w.heap.size w w')) :
    Calls Try.prog 3 #[.int .i64 t, .int .i64 r, .agg #[.int .i64 n, .int .i64 d]] w fun e w' => e = .returned (.bool true) ∧ Below w.heap.size w w' := by
  have R0 := Lib.hid (OneB.start w 23 #[.int .i64 n, .int .i64 d])
  go_enter Try.func3, Try.ntmps3
  go_wp2_with fail
  refine (awake_any _).mono ?_
  rintro e w1 ⟨rfl, hb1⟩
  have R1 := Lib.hid (OneB.later hb1 R0.out)
  clear hb1 R0
  go_wp2_with fail
  refine (C1.out _).mono ?_
  rintro e w2 ⟨rfl, hb2⟩
  have R2 := Lib.hid (OneB.alloc (OneB.later hb2 R1.out) (.cells #[.int .i64 0, .int .i64 0] 23))
  have K2 := Lib.hid (Bk.new w2 23 #[.int .i64 0, .int .i64 0])
  clear hb2 R1 C1
  have c2 := bkf2 R2.out.k
  go_wp2_with fail
  obtain ⟨g2, hg2⟩ : ∃ g, w2.heap.size = g := ⟨_, rfl⟩
  obtain ⟨wA, hwA⟩ : ∃ W, w2.alloc (.cells #[.int .i64 0, .int .i64 0] 23) = W := ⟨_, rfl⟩
  rw [hwA] at R2 K2 c2 ⊢
  rw [hg2] at K2 ⊢
  clear hwA hg2 c2
  refine (C2.out _).mono ?_
  rintro e w3 ⟨rfl, hb3⟩
  have R3 := Lib.hid (OneB.later hb3 R2.out)
  have K3 := Lib.hid (K2.out.later hb3)
  clear hb3 R2 K2 C2
  go_wp2_with fail
  refine (C3.out _).mono ?_
  rintro e w' ⟨rfl, rfl⟩
  clear C3
  have c3 := bkf2 R3.out.k
  have k3 := bkf2 K3.out
  go_wp2
  go_quiet (fail)
  have R4 := Lib.hid (fun k => OneB.later (blw_drewN (Below.refl _ _) k) R3.out)
  clear R3 K3 k3
  have hL1 : (L == 0) = false := by rw [beq_eq_false_iff_ne]; exact hL
  have hL2 : (L != 0) = true := by rw [bne_iff_ne]; exact hL
  have c4 := c3
  clear c3
  go_wp2_with fail
  refine (D1.out _).mono ?_
  rintro e w' ⟨rfl, rfl⟩
  clear D1
  go_wp2_with fail
  refine (D2.out _).mono ?_
  rintro e w5 ⟨rfl, hb5⟩
  have R5 := Lib.hid (OneB.later hb5 (R4.out _))
  clear hb5 R4 D2 c4
  go_wp2
  go_ret
  exact ⟨rfl, R5.out.b⟩

set_option maxRecDepth 100000 in
set_option maxHeartbeats 4000000 in
theorem tails_2f (t r n d : Int) (w : World) (V : Int)
    (C1 : Hid (∀ w, Calls Try.prog 16 #[.int .i64 t, .int .i64 r] w fun e w' => e = .returned (.tuple #[.agg #[.int .i64 0, .int .i64 0], .int .i64 2]) ∧ Below w.heap.size w w'))
    (C2 : Hid (∀ w, Calls Try.prog 17 #[.int .i64 t, .agg #[.int .i64 n, .int .i64 d]] w fun e w' => e = .returned (.tuple #[.int .i64 V, .int .i64 0]) ∧ Below w.heap.size w w'))
    (C3 : Hid (∀ w, Calls Try.prog 18 #[.int .i64 t, .int .i64 r] w fun e w' => e = .returned (.int .i64 2) ∧ w = w'))
    (D1 : Hid (∀ w, Calls Try.prog 20 #[.int .i64 t] w fun e w' => e = .returned (.int .i64 0) ∧ w = w'))
    (D2 : Hid (∀ w, Calls Try.prog 21 #[.agg #[.int .i64 n, .int .i64 d]] w fun e w' => e = .returned (.int .i64 0) ∧ Below w.heap.size w w'))
    (D3 : Hid (∀ w, Calls Try.prog 22 #[.int .i64 t, .agg #[.int .i64 n, .int .i64 d]] w fun e w' => e = .returned (.tuple #[.int .i64 V, .bool true]) ∧ Below w.heap.size w w')) :
    Calls Try.prog 3 #[.int .i64 t, .int .i64 r, .agg #[.int .i64 n, .int .i64 d]] w fun e w' => e = .returned (.bool true) ∧ Below w.heap.size w w' := by
  have R0 := Lib.hid (OneB.start w 23 #[.int .i64 n, .int .i64 d])
  go_enter Try.func3, Try.ntmps3
  go_wp2_with fail
  refine (awake_any _).mono ?_
  rintro e w1 ⟨rfl, hb1⟩
  have R1 := Lib.hid (OneB.later hb1 R0.out)
  clear hb1 R0
  go_wp2_with fail
  refine (C1.out _).mono ?_
  rintro e w2 ⟨rfl, hb2⟩
  have R2 := Lib.hid (OneB.alloc (OneB.later hb2 R1.out) (.cells #[.int .i64 0, .int .i64 0] 23))
  have K2 := Lib.hid (Bk.new w2 23 #[.int .i64 0, .int .i64 0])
  clear hb2 R1 C1
  have c2 := bkf2 R2.out.k
  go_wp2_with fail
  obtain ⟨g2, hg2⟩ : ∃ g, w2.heap.size = g := ⟨_, rfl⟩
  obtain ⟨wA, hwA⟩ : ∃ W, w2.alloc (.cells #[.int .i64 0, .int .i64 0] 23) = W := ⟨_, rfl⟩
  rw [hwA] at R2 K2 c2 ⊢
  rw [hg2] at K2 ⊢
  clear hwA hg2 c2
  refine (C2.out _).mono ?_
  rintro e w3 ⟨rfl, hb3⟩
  have R3 := Lib.hid (OneB.later hb3 R2.out)
  have K3 := Lib.hid (K2.out.later hb3)
  clear hb3 R2 K2 C2
  go_wp2_with fail
  refine (C3.out _).mono ?_
  rintro e w' ⟨rfl, rfl⟩
  clear C3
  have c3 := bkf2 R3.out.k
  have k3 := bkf2 K3.out
  go_wp2
  go_quiet (fail)
  have R4 := Lib.hid (fun k => OneB.later (blw_drewN (Below.refl _ _) k) R3.out)
  clear R3 K3 k3
  have c4 := c3
  clear c3
  go_wp2_with fail
  refine (D1.out _).mono ?_
  rintro e w' ⟨rfl, rfl⟩
  clear D1
  go_wp2_with fail
  refine (D2.out _).mono ?_
  rintro e w5 ⟨rfl, hb5⟩
  have R5 := Lib.hid (OneB.later hb5 (R4.out _))
  clear hb5 R4 D2 c4
  have c5 := bkf2 R5.out.k
  go_wp2_with fail
  refine (D3.out _).mono ?_
  rintro e w6 ⟨rfl, hb6⟩
  have R6 := Lib.hid (OneB.later hb6 R5.out)
  clear hb6 R5 D3 c5
  go_wp2
  go_ret
  exact ⟨rfl, R6.out.b⟩

set_option maxRecDepth 100000 in
set_option maxHeartbeats 4000000 in
theorem tails_2n (t r n d : Int) (w : World)
    (C1 : Hid (∀ w, Calls Try.prog 16 #[.int .i64 t, .int .i64 r] w fun e w' => e = .returned (.tuple #[.agg #[.int .i64 0, .int .i64 0], .int .i64 2]) ∧ Below w.heap.size w w'))
    (C2 : Hid (∀ w, Calls Try.prog 17 #[.int .i64 t, .agg #[.int .i64 n, .int .i64 d]] w fun e w' => e = .returned (.tuple #[.int .i64 0, .int .i64 12]) ∧ Below w.heap.size w w'))
    (C3 : Hid (∀ w, Calls Try.prog 18 #[.int .i64 t, .int .i64 r] w fun e w' => e = .returned (.int .i64 2) ∧ w = w'))
    (D1 : Hid (∀ w, Calls Try.prog 20 #[.int .i64 t] w fun e w' => e = .returned (.int .i64 0) ∧ w = w'))
    (D2 : Hid (∀ w, Calls Try.prog 21 #[.agg #[.int .i64 n, .int .i64 d]] w fun e w' => e = .returned (.int .i64 0) ∧ Below w.heap.size w w'))
    (D3 : Hid (∀ w, Calls Try.prog 22 #[.int .i64 t, .agg #[.int .i64 n, .int .i64 d]] w fun e w' => e = .returned (.tuple #[.int .i64 0, .bool false]) ∧ Below w.heap.size w w')) :
    Calls Try.prog 3 #[.int .i64 t, .int .i64 r, .agg #[.int .i64 n, .int .i64 d]] w fun e w' => e = .returned (.bool true) ∧ Below w.heap.size w w' := by
  have R0 := Lib.hid (OneB.start w 23 #[.int .i64 n, .int .i64 d])
  go_enter Try.func3, Try.ntmps3
  go_wp2_with fail
  refine (awake_any _).mono ?_
  rintro e w1 ⟨rfl, hb1⟩
  have R1 := Lib.hid (OneB.later hb1 R0.out)
  clear hb1 R0
  go_wp2_with fail
  refine (C1.out _).mono ?_
  rintro e w2 ⟨rfl, hb2⟩
  have R2 := Lib.hid (OneB.alloc (OneB.later hb2 R1.out) (.cells #[.int .i64 0, .int .i64 0] 23))
  have K2 := Lib.hid (Bk.new w2 23 #[.int .i64 0, .int .i64 0])
  clear hb2 R1 C1
  have c2 := bkf2 R2.out.k
  go_wp2_with fail
  obtain ⟨g2, hg2⟩ : ∃ g, w2.heap.size = g := ⟨_, rfl⟩
  obtain ⟨wA, hwA⟩ : ∃ W, w2.alloc (.cells #[.int .i64 0, .int .i64 0] 23) = W := ⟨_, rfl⟩
  rw [hwA] at R2 K2 c2 ⊢
  rw [hg2] at K2 ⊢
  clear hwA hg2 c2
  refine (C2.out _).mono ?_
  rintro e w3 ⟨rfl, hb3⟩
  have R3 := Lib.hid (OneB.later hb3 R2.out)
  have K3 := Lib.hid (K2.out.later hb3)
  clear hb3 R2 K2 C2
  go_wp2_with fail
  refine (C3.out _).mono ?_
  rintro e w' ⟨rfl, rfl⟩
  clear C3
  have c3 := bkf2 R3.out.k
  have k3 := bkf2 K3.out
  go_wp2
  go_quiet (fail)
  have R4 := Lib.hid (fun k => OneB.later (blw_drewN (Below.refl _ _) k) R3.out)
  clear R3 K3 k3
  have c4 := c3
  clear c3
  go_wp2_with fail
  refine (D1.out _).mono ?_
  rintro e w' ⟨rfl, rfl⟩
  clear D1
  go_wp2_with fail
  refine (D2.out _).mono ?_
  rintro e w5 ⟨rfl, hb5⟩
  have R5 := Lib.hid (OneB.later hb5 (R4.out _))
  clear hb5 R4 D2 c4
  have c5 := bkf2 R5.out.k
  go_wp2_with fail
  refine (D3.out _).mono ?_
  rintro e w6 ⟨rfl, hb6⟩
  have R6 := Lib.hid (OneB.later hb6 R5.out)
  clear hb6 R5 D3 c5
  go_wp2
  go_ret
  exact ⟨rfl, R6.out.b⟩

end Go.Proofs.Ytlpkjkjgmenhkaa

namespace Go.Proofs.Ytlpkjkjgmenhkaa
open Go.RowKit

open Go.Shelf

set_option maxRecDepth 100000 in
set_option maxHeartbeats 4000000 in
theorem tails_0l (t r n d : Int) (w : World) (tN tD : Int) (L : Int) (hL : L ≠ 0)
    (C1 : Hid (∀ w, Calls Try.prog 16 #[.int .i64 t, .int .i64 r] w fun e w' => e = .returned (.tuple #[.agg #[.int .i64 tN, .int .i64 tD], .int .i64 0]) ∧ Below w.heap.size w w'))
    (C2 : Hid (∀ w, Calls Try.prog 17 #[.int .i64 t, .agg #[.int .i64 n, .int .i64 d]] w fun e w' => e = .returned (.tuple #[.int .i64 0, .int .i64 L]) ∧ Below w.heap.size w w'))
    (C3 : Hid (∀ w, Calls Try.prog 18 #[.int .i64 t, .int .i64 r] w fun e w' => e = .returned (.int .i64 0) ∧ w = w'))
    (CQ : Hid (∀ w, Calls Try.prog 19 #[.int .i64 t, .int .i64 r] w fun e w' => e = .returned (.agg #[.int .i64 tN, .int .i64 tD]) ∧ Below w.heap.size w w'))
    (D1 : Hid (∀ w, Calls Try.prog 20 #[.int .i64 t] w fun e w' => e = .returned (.int .i64 0) ∧ w = w'))
    (D2 : Hid (∀ w, Calls Try.prog 21 #[.agg #[.int .i64 n, .int .i64 d]] w fun e w' => e = .returned (.int .i64 L) ∧ Below w.heap.size w w')) :
    Calls Try.prog 3 #[.int .i64 t, .int .i64 r, .agg #[.int .i64 n, .int .i64 d]] w fun e w' => e = .returned (.bool true) ∧ Below w.heap.size w w' := by
  have R0 := Lib.hid (OneB.start w 23 #[.int .i64 n, .int .i64 d])
  go_enter Try.func3, Try.ntmps3
  go_wp2_with fail
  refine (awake_any _).mono ?_
  rintro e w1 ⟨rfl, hb1⟩
  have R1 := Lib.hid (OneB.later hb1 R0.out)
  clear hb1 R0
  go_wp2_with fail
  refine (C1.out _).mono ?_
  rintro e w2 ⟨rfl, hb2⟩
  have R2 := Lib.hid (OneB.alloc (OneB.later hb2 R1.out) (.cells #[.int .i64 tN, .int .i64 tD] 23))
  have K2 := Lib.hid (Bk.new w2 23 #[.int .i64 tN, .int .i64 tD])
  clear hb2 R1 C1
  have c2 := bkf2 R2.out.k
  go_wp2_with fail
  obtain ⟨g2, hg2⟩ : ∃ g, w2.heap.size = g := ⟨_, rfl⟩
  obtain ⟨wA, hwA⟩ : ∃ W, w2.alloc (.cells #[.int .i64 tN, .int .i64 tD] 23) = W := ⟨_, rfl⟩
  rw [hwA] at R2 K2 c2 ⊢
  rw [hg2] at K2 ⊢
  clear hwA hg2 c2
  refine (C2.out _).mono ?_
  rintro e w3 ⟨rfl, hb3⟩
  have R3 := Lib.hid (OneB.later hb3 R2.out)
  have K3 := Lib.hid (K2.out.later hb3)
  clear hb3 R2 K2 C2
  go_wp2_with fail
  refine (C3.out _).mono ?_
  rintro e w' ⟨rfl, rfl⟩
  clear C3
  have hB3 : Below w3.heap.size w3 w3 := Below.refl _ _
  have HC : Hid (∀ W, Below w3.heap.size w3 W → W.cell? ⟨g2, 0, none⟩ = some (.int .i64 tN) ∧ W.cell? ⟨g2, 1, none⟩ = some (.int .i64 tD)) := fun W hb => bkf2 (K3.out.later hb)
  go_wp2
  refine wp_region_held_drew (S := fun w' : World => (w'.cell? ⟨g2, 0, none⟩ = some (.int .i64 tN) ∧ w'.cell? ⟨g2, 1, none⟩ = some (.int .i64 tD)) ∧ Below w3.heap.size w3 w') (by kernel_rfl) ⟨HC.out _ (Below.drew hB3), Below.drew hB3⟩ (fun hHeld => ?_)
  refine wpAnyH_take (i := 0) (v := .int .i64 0) rfl (by kernel_rfl) (by kernel_rfl) (by kernel_rfl) (fun _ _ _ h => h) (Or.inl ⟨by rfl, fun W hW => ?_⟩) (by assumption) ?_
  · go_split_ands; go_simp
  simp only [Act.put, List.getElem_toArray, List.getElem_cons_succ, List.getElem_cons_zero, List.setIfInBounds_toArray, List.set_cons_zero, List.set_cons_succ]
  refine wpAnyH_take (i := 1) (v := .bool false) rfl (by kernel_rfl) (by kernel_rfl) (by kernel_rfl) (fun _ _ _ h => h) (Or.inl ⟨by rfl, fun W hW => ?_⟩) (by assumption) ?_
  · go_split_ands; go_simp
  simp only [Act.put, List.getElem_toArray, List.getElem_cons_succ, List.getElem_cons_zero, List.setIfInBounds_toArray, List.set_cons_zero, List.set_cons_succ]
  refine wpAnyH_take (i := 2) (v := .bool false) rfl (by kernel_rfl) (by kernel_rfl) (by kernel_rfl) (fun _ _ _ h => h) (Or.inl ⟨by rfl, fun W hW => ?_⟩) (by assumption) ?_
  · go_split_ands; go_simp
  simp only [Act.put, List.getElem_toArray, List.getElem_cons_succ, List.getElem_cons_zero, List.setIfInBounds_toArray, List.set_cons_zero, List.set_cons_succ]
  refine wpAnyH_take (i := 3) (v := undef) rfl (by kernel_rfl) (by kernel_rfl) (by kernel_rfl) (fun _ _ _ h => h) (Or.inr ⟨by rfl, rfl⟩) (by assumption) ?_
  simp only [Act.put, List.getElem_toArray, List.getElem_cons_succ, List.getElem_cons_zero, List.setIfInBounds_toArray, List.set_cons_zero, List.set_cons_succ]
  refine wpAnyH_take (i := 4) (v := undef) rfl (by kernel_rfl) (by kernel_rfl) (by kernel_rfl) (fun _ _ _ h => h) (Or.inr ⟨by rfl, rfl⟩) (by assumption) ?_
  simp only [Act.put, List.getElem_toArray, List.getElem_cons_succ, List.getElem_cons_zero, List.setIfInBounds_toArray, List.set_cons_zero, List.set_cons_succ]
  refine wpAnyH_take (i := 5) (v := undef) rfl (by kernel_rfl) (by kernel_rfl) (by kernel_rfl) (fun _ _ _ h => h) (Or.inr ⟨by rfl, rfl⟩) (by assumption) ?_
  simp only [Act.put, List.getElem_toArray, List.getElem_cons_succ, List.getElem_cons_zero, List.setIfInBounds_toArray, List.set_cons_zero, List.set_cons_succ]
  refine wpAnyH_take (i := 6) (v := undef) rfl (by kernel_rfl) (by kernel_rfl) (by kernel_rfl) (fun _ _ _ h => h) (Or.inr ⟨by rfl, rfl⟩) (by assumption) ?_
  simp only [Act.put, List.getElem_toArray, List.getElem_cons_succ, List.getElem_cons_zero, List.setIfInBounds_toArray, List.set_cons_zero, List.set_cons_succ]
  refine wpAnyH_take (i := 7) (v := undef) rfl (by kernel_rfl) (by kernel_rfl) (by kernel_rfl) (fun _ _ _ h => h) (Or.inr ⟨by rfl, rfl⟩) (by assumption) ?_
  simp only [Act.put, List.getElem_toArray, List.getElem_cons_succ, List.getElem_cons_zero, List.setIfInBounds_toArray, List.set_cons_zero, List.set_cons_succ]
  refine wpAnyH_take (i := 8) (v := undef) rfl (by kernel_rfl) (by kernel_rfl) (by kernel_rfl) (fun _ _ _ h => h) (Or.inr ⟨by rfl, rfl⟩) (by assumption) ?_
  simp only [Act.put, List.getElem_toArray, List.getElem_cons_succ, List.getElem_cons_zero, List.setIfInBounds_toArray, List.set_cons_zero, List.set_cons_succ]
  refine wpAnyH_take (i := 9) (v := undef) rfl (by kernel_rfl) (by kernel_rfl) (by kernel_rfl) (fun _ _ _ h => h) (Or.inr ⟨by rfl, rfl⟩) (by assumption) ?_
  simp only [Act.put, List.getElem_toArray, List.getElem_cons_succ, List.getElem_cons_zero, List.setIfInBounds_toArray, List.set_cons_zero, List.set_cons_succ]
  refine wpAnyH_take (i := 10) (v := undef) rfl (by kernel_rfl) (by kernel_rfl) (by kernel_rfl) (fun _ _ _ h => h) (Or.inr ⟨by rfl, rfl⟩) (by assumption) ?_
  simp only [Act.put, List.getElem_toArray, List.getElem_cons_succ, List.getElem_cons_zero, List.setIfInBounds_toArray, List.set_cons_zero, List.set_cons_succ]
  refine wpAnyH_take (i := 11) (v := .bool false) rfl (by kernel_rfl) (by kernel_rfl) (by kernel_rfl) (fun _ _ _ h => h) (Or.inl ⟨by rfl, fun W hW => ?_⟩) (by assumption) ?_
  · go_split_ands; go_simp
  simp only [Act.put, List.getElem_toArray, List.getElem_cons_succ, List.getElem_cons_zero, List.setIfInBounds_toArray, List.set_cons_zero, List.set_cons_succ]
  refine wpAnyH_take (i := 12) (v := .bool false) rfl (by kernel_rfl) (by kernel_rfl) (by kernel_rfl) (fun _ _ _ h => h) (Or.inl ⟨by rfl, fun W hW => ?_⟩) (by assumption) ?_
  · go_split_ands; go_simp
  simp only [Act.put, List.getElem_toArray, List.getElem_cons_succ, List.getElem_cons_zero, List.setIfInBounds_toArray, List.set_cons_zero, List.set_cons_succ]
  refine wpAnyH_take (i := 13) (v := .int .i64 0) rfl (by kernel_rfl) (by kernel_rfl) (by kernel_rfl) (fun _ _ _ h => h) (Or.inl ⟨by rfl, fun W hW => ?_⟩) (by assumption) ?_
  · go_split_ands; go_simp
  simp only [Act.put, List.getElem_toArray, List.getElem_cons_succ, List.getElem_cons_zero, List.setIfInBounds_toArray, List.set_cons_zero, List.set_cons_succ]
  refine wpAnyH_take (i := 14) (v := .bool true) rfl (by kernel_rfl) (by kernel_rfl) (by kernel_rfl) (fun _ _ _ h => h) (Or.inl ⟨by rfl, fun W hW => ?_⟩) (by assumption) ?_
  · go_split_ands; go_simp
  simp only [Act.put, List.getElem_toArray, List.getElem_cons_succ, List.getElem_cons_zero, List.setIfInBounds_toArray, List.set_cons_zero, List.set_cons_succ]
  refine wpAnyH_take (i := 15) (v := .bool true) rfl (by kernel_rfl) (by kernel_rfl) (by kernel_rfl) (fun _ _ _ h => h) (Or.inl ⟨by rfl, fun W hW => ?_⟩) (by assumption) ?_
  · go_split_ands; go_simp
  simp only [Act.put, List.getElem_toArray, List.getElem_cons_succ, List.getElem_cons_zero, List.setIfInBounds_toArray, List.set_cons_zero, List.set_cons_succ]
  refine wpAnyH_take (i := 16) (v := .int .i64 0) rfl (by kernel_rfl) (by kernel_rfl) (by kernel_rfl) (fun _ _ _ h => h) (Or.inl ⟨by rfl, fun W hW => ?_⟩) (by assumption) ?_
  · go_split_ands; go_simp
  simp only [Act.put, List.getElem_toArray, List.getElem_cons_succ, List.getElem_cons_zero, List.setIfInBounds_toArray, List.set_cons_zero, List.set_cons_succ]
  refine wpAnyH_take (i := 17) (v := .bool false) rfl (by kernel_rfl) (by kernel_rfl) (by kernel_rfl) (fun _ _ _ h => h) (Or.inl ⟨by rfl, fun W hW => ?_⟩) (by assumption) ?_
  · go_split_ands; go_simp
  simp only [Act.put, List.getElem_toArray, List.getElem_cons_succ, List.getElem_cons_zero, List.setIfInBounds_toArray, List.set_cons_zero, List.set_cons_succ]
  refine wpAnyH_take (i := 18) (v := .bool false) rfl (by kernel_rfl) (by kernel_rfl) (by kernel_rfl) (fun _ _ _ h => h) (Or.inl ⟨by rfl, fun W hW => ?_⟩) (by assumption) ?_
  · go_split_ands; go_simp
  simp only [Act.put, List.getElem_toArray, List.getElem_cons_succ, List.getElem_cons_zero, List.setIfInBounds_toArray, List.set_cons_zero, List.set_cons_succ]
  refine wpAnyH_take (i := 19) (v := .agg #[.int .i64 tN, .int .i64 tD]) rfl (by kernel_rfl) (by kernel_rfl) (by kernel_rfl) (fun _ _ _ h => h) (Or.inl ⟨by rfl, fun W hW => ?_⟩) (by assumption) ?_
  · go_split_ands; go_simp
  simp only [Act.put, List.getElem_toArray, List.getElem_cons_succ, List.getElem_cons_zero, List.setIfInBounds_toArray, List.set_cons_zero, List.set_cons_succ]
  refine wpAnyH_take (i := 20) (v := .int .i64 t) rfl (by kernel_rfl) (by kernel_rfl) (by kernel_rfl) (fun _ _ _ h => h) (Or.inl ⟨by rfl, fun W hW => ?_⟩) (by assumption) ?_
  · go_split_ands; go_simp
  simp only [Act.put, List.getElem_toArray, List.getElem_cons_succ, List.getElem_cons_zero, List.setIfInBounds_toArray, List.set_cons_zero, List.set_cons_succ]
  refine wpAnyH_take (i := 21) (v := .int .i64 r) rfl (by kernel_rfl) (by kernel_rfl) (by kernel_rfl) (fun _ _ _ h => h) (Or.inl ⟨by rfl, fun W hW => ?_⟩) (by assumption) ?_
  · go_split_ands; go_simp
  simp only [Act.put, List.getElem_toArray, List.getElem_cons_succ, List.getElem_cons_zero, List.setIfInBounds_toArray, List.set_cons_zero, List.set_cons_succ]
  refine wpAnyH_ready (rs := [22]) (by kernel_rfl) (by simp) ?_
  refine AllReadyH.cons rfl (fun K hK => ?_) AllReadyH.nil
  rw [if_pos (by rfl)]
  go_simp
  refine (CQ.out _).mono ?_
  rintro e w4 ⟨rfl, hb4⟩
  have hb4' : Below w3.heap.size w3 w4 := (Below.drew hB3).trans (hb4.mono (Below.drew hB3).size)
  refine hK.out _ _ ⟨HC.out _ hb4', hb4'⟩ (fun hHeld => ?_)
  clear hK K hb4
  try simp only [Act.put, List.getElem_toArray, List.getElem_cons_succ, List.getElem_cons_zero, List.setIfInBounds_toArray, List.set_cons_zero, List.set_cons_succ]
  refine wpAnyH_take (i := 23) (v := .bool false) rfl (by kernel_rfl) (by kernel_rfl) (by kernel_rfl) (fun _ _ _ h => h) (Or.inl ⟨by rfl, fun W hW => ?_⟩) (by assumption) ?_
  · go_split_ands; go_simp
  simp only [Act.put, List.getElem_toArray, List.getElem_cons_succ, List.getElem_cons_zero, List.setIfInBounds_toArray, List.set_cons_zero, List.set_cons_succ]
  refine wpAnyH_take (i := 24) (v := .bool false) rfl (by kernel_rfl) (by kernel_rfl) (by kernel_rfl) (fun _ _ _ h => h) (Or.inl ⟨by rfl, fun W hW => ?_⟩) (by assumption) ?_
  · go_split_ands; go_simp
  simp only [Act.put, List.getElem_toArray, List.getElem_cons_succ, List.getElem_cons_zero, List.setIfInBounds_toArray, List.set_cons_zero, List.set_cons_succ]
  refine wpAnyH_take (i := 25) (v := .bool false) rfl (by kernel_rfl) (by kernel_rfl) (by kernel_rfl) (fun _ _ _ h => h) (Or.inl ⟨by rfl, fun W hW => ?_⟩) (by assumption) ?_
  · go_split_ands; go_simp
  simp only [Act.put, List.getElem_toArray, List.getElem_cons_succ, List.getElem_cons_zero, List.setIfInBounds_toArray, List.set_cons_zero, List.set_cons_succ]
  refine wpAnyH_take (i := 26) (v := .bool false) rfl (by kernel_rfl) (by kernel_rfl) (by kernel_rfl) (fun _ _ _ h => h) (Or.inl ⟨by rfl, fun W hW => ?_⟩) (by assumption) ?_
  · go_split_ands; go_simp
  simp only [Act.put, List.getElem_toArray, List.getElem_cons_succ, List.getElem_cons_zero, List.setIfInBounds_toArray, List.set_cons_zero, List.set_cons_succ]
  refine wpAnyH_done (by kernel_rfl) ?_ _
  have R4 := Lib.hid (OneB.later hb4' R3.out)
  clear hb4' R3 K3 HC hB3 CQ
  have hL1 : (L == 0) = false := by rw [beq_eq_false_iff_ne]; exact hL
  have hL2 : (L != 0) = true := by rw [bne_iff_ne]; exact hL
  have c4 := bkf2 R4.out.k
  go_wp2_with fail
  refine (D1.out _).mono ?_
  rintro e w' ⟨rfl, rfl⟩
  clear D1
  go_wp2_with fail
  refine (D2.out _).mono ?_
  rintro e w5 ⟨rfl, hb5⟩
  have R5 := Lib.hid (OneB.later hb5 R4.out)
  clear hb5 R4 D2 c4
  go_wp2
  go_ret
  exact ⟨rfl, R5.out.b⟩

set_option maxRecDepth 100000 in
set_option maxHeartbeats 4000000 in
theorem tails_0f (t r n d : Int) (w : World) (tN tD : Int) (V : Int)
    (C1 : Hid (∀ w, Calls Try.prog 16 #[.int .i64 t, .int .i64 r] w fun e w' => e = .returned (.tuple #[.agg #[.int .i64 tN, .int .i64 tD], .int .i64 0]) ∧ Below w.heap.size w w'))
    (C2 : Hid (∀ w, Calls Try.prog 17 #[.int .i64 t, .agg #[.int .i64 n, .int .i64 d]] w fun e w' => e = .returned (.tuple #[.int .i64 V, .int .i64 0]) ∧ Below w.heap.size w w'))
    (C3 : Hid (∀ w, Calls Try.prog 18 #[.int .i64 t, .int .i64 r] w fun e w' => e = .returned (.int .i64 0) ∧ w = w'))
    (CQ : Hid (∀ w, Calls Try.prog 19 #[.int .i64 t, .int .i64 r] w fun e w' => e = .returned (.agg #[.int .i64 tN, .int .i64 tD]) ∧ Below w.heap.size w w'))
    (D1 : Hid (∀ w, Calls Try.prog 20 #[.int .i64 t] w fun e w' => e = .returned (.int .i64 0) ∧ w = w'))
    (D2 : Hid (∀ w, Calls Try.prog 21 #[.agg #[.int .i64 n, .int .i64 d]] w fun e w' => e = .returned (.int .i64 0) ∧ Below w.heap.size w w'))
    (D3 : Hid (∀ w, Calls Try.prog 22 #[.int .i64 t, .agg #[.int .i64 n, .int .i64 d]] w fun e w' => e = .returned (.tuple #[.int .i64 V, .bool true]) ∧ Below w.heap.size w w')) :
    Calls Try.prog 3 #[.int .i64 t, .int .i64 r, .agg #[.int .i64 n, .int .i64 d]] w fun e w' => e = .returned (.bool true) ∧ Below w.heap.size w w' := by
  have R0 := Lib.hid (OneB.start w 23 #[.int .i64 n, .int .i64 d])
  go_enter Try.func3, Try.ntmps3
  go_wp2_with fail
  refine (awake_any _).mono ?_
  rintro e w1 ⟨rfl, hb1⟩
  have R1 := Lib.hid (OneB.later hb1 R0.out)
  clear hb1 R0
  go_wp2_with fail
  refine (C1.out _).mono ?_
  rintro e w2 ⟨rfl, hb2⟩
  have R2 := Lib.hid (OneB.alloc (OneB.later hb2 R1.out) (.cells #[.int .i64 tN, .int .i64 tD] 23))
  have K2 := Lib.hid (Bk.new w2 23 #[.int .i64 tN, .int .i64 tD])
  clear hb2 R1 C1
  have c2 := bkf2 R2.out.k
  go_wp2_with fail
  obtain ⟨g2, hg2⟩ : ∃ g, w2.heap.size = g := ⟨_, rfl⟩
  obtain ⟨wA, hwA⟩ : ∃ W, w2.alloc (.cells #[.int .i64 tN, .int .i64 tD] 23) = W := ⟨_, rfl⟩
  rw [hwA] at R2 K2 c2 ⊢
  rw [hg2] at K2 ⊢
  clear hwA hg2 c2
  refine (C2.out _).mono ?_
  rintro e w3 ⟨rfl, hb3⟩
  have R3 := Lib.hid (OneB.later hb3 R2.out)
  have K3 := Lib.hid (K2.out.later hb3)
  clear hb3 R2 K2 C2
  go_wp2_with fail
  refine (C3.out _).mono ?_
  rintro e w' ⟨rfl, rfl⟩
  clear C3
  have hB3 : Below w3.heap.size w3 w3 := Below.refl _ _
  have HC : Hid (∀ W, Below w3.heap.size w3 W → W.cell? ⟨g2, 0, none⟩ = some (.int .i64 tN) ∧ W.cell? ⟨g2, 1, none⟩ = some (.int .i64 tD)) := fun W hb => bkf2 (K3.out.later hb)
  go_wp2
  refine wp_region_held_drew (S := fun w' : World => (w'.cell? ⟨g2, 0, none⟩ = some (.int .i64 tN) ∧ w'.cell? ⟨g2, 1, none⟩ = some (.int .i64 tD)) ∧ Below w3.heap.size w3 w') (by kernel_rfl) ⟨HC.out _ (Below.drew hB3), Below.drew hB3⟩ (fun hHeld => ?_)
  refine wpAnyH_take (i := 0) (v := .int .i64 0) rfl (by kernel_rfl) (by kernel_rfl) (by kernel_rfl) (fun _ _ _ h => h) (Or.inl ⟨by rfl, fun W hW => ?_⟩) (by assumption) ?_
  · go_split_ands; go_simp
  simp only [Act.put, List.getElem_toArray, List.getElem_cons_succ, List.getElem_cons_zero, List.setIfInBounds_toArray, List.set_cons_zero, List.set_cons_succ]
  refine wpAnyH_take (i := 1) (v := .bool false) rfl (by kernel_rfl) (by kernel_rfl) (by kernel_rfl) (fun _ _ _ h => h) (Or.inl ⟨by rfl, fun W hW => ?_⟩) (by assumption) ?_
  · go_split_ands; go_simp
  simp only [Act.put, List.getElem_toArray, List.getElem_cons_succ, List.getElem_cons_zero, List.setIfInBounds_toArray, List.set_cons_zero, List.set_cons_succ]
  refine wpAnyH_take (i := 2) (v := .bool false) rfl (by kernel_rfl) (by kernel_rfl) (by kernel_rfl) (fun _ _ _ h => h) (Or.inl ⟨by rfl, fun W hW => ?_⟩) (by assumption) ?_
  · go_split_ands; go_simp
  simp only [Act.put, List.getElem_toArray, List.getElem_cons_succ, List.getElem_cons_zero, List.setIfInBounds_toArray, List.set_cons_zero, List.set_cons_succ]
  refine wpAnyH_take (i := 3) (v := undef) rfl (by kernel_rfl) (by kernel_rfl) (by kernel_rfl) (fun _ _ _ h => h) (Or.inr ⟨by rfl, rfl⟩) (by assumption) ?_
  simp only [Act.put, List.getElem_toArray, List.getElem_cons_succ, List.getElem_cons_zero, List.setIfInBounds_toArray, List.set_cons_zero, List.set_cons_succ]
  refine wpAnyH_take (i := 4) (v := undef) rfl (by kernel_rfl) (by kernel_rfl) (by kernel_rfl) (fun _ _ _ h => h) (Or.inr ⟨by rfl, rfl⟩) (by assumption) ?_
  simp only [Act.put, List.getElem_toArray, List.getElem_cons_succ, List.getElem_cons_zero, List.setIfInBounds_toArray, List.set_cons_zero, List.set_cons_succ]
  refine wpAnyH_take (i := 5) (v := undef) rfl (by kernel_rfl) (by kernel_rfl) (by kernel_rfl) (fun _ _ _ h => h) (Or.inr ⟨by rfl, rfl⟩) (by assumption) ?_
  simp only [Act.put, List.getElem_toArray, List.getElem_cons_succ, List.getElem_cons_zero, List.setIfInBounds_toArray, List.set_cons_zero, List.set_cons_succ]
  refine wpAnyH_take (i := 6) (v := undef) rfl (by kernel_rfl) (by kernel_rfl) (by kernel_rfl) (fun _ _ _ h => h) (Or.inr ⟨by rfl, rfl⟩) (by assumption) ?_
  simp only [Act.put, List.getElem_toArray, List.getElem_cons_succ, List.getElem_cons_zero, List.setIfInBounds_toArray, List.set_cons_zero, List.set_cons_succ]
  refine wpAnyH_take (i := 7) (v := undef) rfl (by kernel_rfl) (by kernel_rfl) (by kernel_rfl) (fun _ _ _ h => h) (Or.inr ⟨by rfl, rfl⟩) (by assumption) ?_
  simp only [Act.put, List.getElem_toArray, List.getElem_cons_succ, List.getElem_cons_zero, List.setIfInBounds_toArray, List.set_cons_zero, List.set_cons_succ]
  refine wpAnyH_take (i := 8) (v := undef) rfl (by kernel_rfl) (by kernel_rfl) (by kernel_rfl) (fun _ _ _ h => h) (Or.inr ⟨by rfl, rfl⟩) (by assumption) ?_
  simp only [Act.put, List.getElem_toArray, List.getElem_cons_succ, List.getElem_cons_zero, List.setIfInBounds_toArray, List.set_cons_zero, List.set_cons_succ]
  refine wpAnyH_take (i := 9) (v := undef) rfl (by kernel_rfl) (by kernel_rfl) (by kernel_rfl) (fun _ _ _ h => h) (Or.inr ⟨by rfl, rfl⟩) (by assumption) ?_
  simp only [Act.put, List.getElem_toArray, List.getElem_cons_succ, List.getElem_cons_zero, List.setIfInBounds_toArray, List.set_cons_zero, List.set_cons_succ]
  refine wpAnyH_take (i := 10) (v := undef) rfl (by kernel_rfl) (by kernel_rfl) (by kernel_rfl) (fun _ _ _ h => h) (Or.inr ⟨by rfl, rfl⟩) (by assumption) ?_
  simp only [Act.put, List.getElem_toArray, List.getElem_cons_succ, List.getElem_cons_zero, List.setIfInBounds_toArray, List.set_cons_zero, List.set_cons_succ]
  refine wpAnyH_take (i := 11) (v := .bool false) rfl (by kernel_rfl) (by kernel_rfl) (by kernel_rfl) (fun _ _ _ h => h) (Or.inl ⟨by rfl, fun W hW => ?_⟩) (by assumption) ?_
  · go_split_ands; go_simp
  simp only [Act.put, List.getElem_toArray, List.getElem_cons_succ, List.getElem_cons_zero, List.setIfInBounds_toArray, List.set_cons_zero, List.set_cons_succ]
  refine wpAnyH_take (i := 12) (v := .bool false) rfl (by kernel_rfl) (by kernel_rfl) (by kernel_rfl) (fun _ _ _ h => h) (Or.inl ⟨by rfl, fun W hW => ?_⟩) (by assumption) ?_
  · go_split_ands; go_simp
  simp only [Act.put, List.getElem_toArray, List.getElem_cons_succ, List.getElem_cons_zero, List.setIfInBounds_toArray, List.set_cons_zero, List.set_cons_succ]
  refine wpAnyH_take (i := 13) (v := .int .i64 0) rfl (by kernel_rfl) (by kernel_rfl) (by kernel_rfl) (fun _ _ _ h => h) (Or.inl ⟨by rfl, fun W hW => ?_⟩) (by assumption) ?_
  · go_split_ands; go_simp
  simp only [Act.put, List.getElem_toArray, List.getElem_cons_succ, List.getElem_cons_zero, List.setIfInBounds_toArray, List.set_cons_zero, List.set_cons_succ]
  refine wpAnyH_take (i := 14) (v := .bool true) rfl (by kernel_rfl) (by kernel_rfl) (by kernel_rfl) (fun _ _ _ h => h) (Or.inl ⟨by rfl, fun W hW => ?_⟩) (by assumption) ?_
  · go_split_ands; go_simp
  simp only [Act.put, List.getElem_toArray, List.getElem_cons_succ, List.getElem_cons_zero, List.setIfInBounds_toArray, List.set_cons_zero, List.set_cons_succ]
  refine wpAnyH_take (i := 15) (v := .bool true) rfl (by kernel_rfl) (by kernel_rfl) (by kernel_rfl) (fun _ _ _ h => h) (Or.inl ⟨by rfl, fun W hW => ?_⟩) (by assumption) ?_
  · go_split_ands; go_simp
  simp only [Act.put, List.getElem_toArray, List.getElem_cons_succ, List.getElem_cons_zero, List.setIfInBounds_toArray, List.set_cons_zero, List.set_cons_succ]
  refine wpAnyH_take (i := 16) (v := .int .i64 0) rfl (by kernel_rfl) (by kernel_rfl) (by kernel_rfl) (fun _ _ _ h => h) (Or.inl ⟨by rfl, fun W hW => ?_⟩) (by assumption) ?_
  · go_split_ands; go_simp
  simp only [Act.put, List.getElem_toArray, List.getElem_cons_succ, List.getElem_cons_zero, List.setIfInBounds_toArray, List.set_cons_zero, List.set_cons_succ]
  refine wpAnyH_take (i := 17) (v := .bool false) rfl (by kernel_rfl) (by kernel_rfl) (by kernel_rfl) (fun _ _ _ h => h) (Or.inl ⟨by rfl, fun W hW => ?_⟩) (by assumption) ?_
  · go_split_ands; go_simp
  simp only [Act.put, List.getElem_toArray, List.getElem_cons_succ, List.getElem_cons_zero, List.setIfInBounds_toArray, List.set_cons_zero, List.set_cons_succ]
  refine wpAnyH_take (i := 18) (v := .bool false) rfl (by kernel_rfl) (by kernel_rfl) (by kernel_rfl) (fun _ _ _ h => h) (Or.inl ⟨by rfl, fun W hW => ?_⟩) (by assumption) ?_
  · go_split_ands; go_simp
  simp only [Act.put, List.getElem_toArray, List.getElem_cons_succ, List.getElem_cons_zero, List.setIfInBounds_toArray, List.set_cons_zero, List.set_cons_succ]
  refine wpAnyH_take (i := 19) (v := .agg #[.int .i64 tN, .int .i64 tD]) rfl (by kernel_rfl) (by kernel_rfl) (by kernel_rfl) (fun _ _ _ h => h) (Or.inl ⟨by rfl, fun W hW => ?_⟩) (by assumption) ?_
  · go_split_ands; go_simp
  simp only [Act.put, List.getElem_toArray, List.getElem_cons_succ, List.getElem_cons_zero, List.setIfInBounds_toArray, List.set_cons_zero, List.set_cons_succ]
  refine wpAnyH_take (i := 20) (v := .int .i64 t) rfl (by kernel_rfl) (by kernel_rfl) (by kernel_rfl) (fun _ _ _ h => h) (Or.inl ⟨by rfl, fun W hW => ?_⟩) (by assumption) ?_
  · go_split_ands; go_simp
  simp only [Act.put, List.getElem_toArray, List.getElem_cons_succ, List.getElem_cons_zero, List.setIfInBounds_toArray, List.set_cons_zero, List.set_cons_succ]
  refine wpAnyH_take (i := 21) (v := .int .i64 r) rfl (by kernel_rfl) (by kernel_rfl) (by kernel_rfl) (fun _ _ _ h => h) (Or.inl ⟨by rfl, fun W hW => ?_⟩) (by assumption) ?_
  · go_split_ands; go_simp
  simp only [Act.put, List.getElem_toArray, List.getElem_cons_succ, List.getElem_cons_zero, List.setIfInBounds_toArray, List.set_cons_zero, List.set_cons_succ]
  refine wpAnyH_ready (rs := [22]) (by kernel_rfl) (by simp) ?_
  refine AllReadyH.cons rfl (fun K hK => ?_) AllReadyH.nil
  rw [if_pos (by rfl)]
  go_simp
  refine (CQ.out _).mono ?_
  rintro e w4 ⟨rfl, hb4⟩
  have hb4' : Below w3.heap.size w3 w4 := (Below.drew hB3).trans (hb4.mono (Below.drew hB3).size)
  refine hK.out _ _ ⟨HC.out _ hb4', hb4'⟩ (fun hHeld => ?_)
  clear hK K hb4
  try simp only [Act.put, List.getElem_toArray, List.getElem_cons_succ, List.getElem_cons_zero, List.setIfInBounds_toArray, List.set_cons_zero, List.set_cons_succ]
  refine wpAnyH_take (i := 23) (v := .bool false) rfl (by kernel_rfl) (by kernel_rfl) (by kernel_rfl) (fun _ _ _ h => h) (Or.inl ⟨by rfl, fun W hW => ?_⟩) (by assumption) ?_
  · go_split_ands; go_simp
  simp only [Act.put, List.getElem_toArray, List.getElem_cons_succ, List.getElem_cons_zero, List.setIfInBounds_toArray, List.set_cons_zero, List.set_cons_succ]
  refine wpAnyH_take (i := 24) (v := .bool false) rfl (by kernel_rfl) (by kernel_rfl) (by kernel_rfl) (fun _ _ _ h => h) (Or.inl ⟨by rfl, fun W hW => ?_⟩) (by assumption) ?_
  · go_split_ands; go_simp
  simp only [Act.put, List.getElem_toArray, List.getElem_cons_succ, List.getElem_cons_zero, List.setIfInBounds_toArray, List.set_cons_zero, List.set_cons_succ]
  refine wpAnyH_take (i := 25) (v := .bool false) rfl (by kernel_rfl) (by kernel_rfl) (by kernel_rfl) (fun _ _ _ h => h) (Or.inl ⟨by rfl, fun W hW => ?_⟩) (by assumption) ?_
  · go_split_ands; go_simp
  simp only [Act.put, List.getElem_toArray, List.getElem_cons_succ, List.getElem_cons_zero, List.setIfInBounds_toArray, List.set_cons_zero, List.set_cons_succ]
  refine wpAnyH_take (i := 26) (v := .bool false) rfl (by kernel_rfl) (by kernel_rfl) (by kernel_rfl) (fun _ _ _ h => h) (Or.inl ⟨by rfl, fun W hW => ?_⟩) (by assumption) ?_
  · go_split_ands; go_simp
  simp only [Act.put, List.getElem_toArray, List.getElem_cons_succ, List.getElem_cons_zero, List.setIfInBounds_toArray, List.set_cons_zero, List.set_cons_succ]
  refine wpAnyH_done (by kernel_rfl) ?_ _
  have R4 := Lib.hid (OneB.later hb4' R3.out)
  clear hb4' R3 K3 HC hB3 CQ
  have c4 := bkf2 R4.out.k
  go_wp2_with fail
  refine (D1.out _).mono ?_
  rintro e w' ⟨rfl, rfl⟩
  clear D1
  go_wp2_with fail
  refine (D2.out _).mono ?_
  rintro e w5 ⟨rfl, hb5⟩
  have R5 := Lib.hid (OneB.later hb5 R4.out)
  clear hb5 R4 D2 c4
  have c5 := bkf2 R5.out.k
  go_wp2_with fail
  refine (D3.out _).mono ?_
  rintro e w6 ⟨rfl, hb6⟩
  have R6 := Lib.hid (OneB.later hb6 R5.out)
  clear hb6 R5 D3 c5
  go_wp2
  go_ret
  exact ⟨rfl, R6.out.b⟩

set_option maxRecDepth 100000 in
set_option maxHeartbeats 4000000 in
theorem tails_0n (t r n d : Int) (w : World) (tN tD : Int)
    (C1 : Hid (∀ w, Calls Try.prog 16 #[.int .i64 t, .int .i64 r] w fun e w' => e = .returned (.tuple #[.agg #[.int .i64 tN, .int .i64 tD], .int .i64 0]) ∧ Below w.heap.size w w'))
    (C2 : Hid (∀ w, Calls Try.prog 17 #[.int .i64 t, .agg #[.int .i64 n, .int .i64 d]] w fun e w' => e = .returned (.tuple #[.int .i64 0, .int .i64 12]) ∧ Below w.heap.size w w'))
    (C3 : Hid (∀ w, Calls Try.prog 18 #[.int .i64 t, .int .i64 r] w fun e w' => e = .returned (.int .i64 0) ∧ w = w'))
    (CQ : Hid (∀ w, Calls Try.prog 19 #[.int .i64 t, .int .i64 r] w fun e w' => e = .returned (.agg #[.int .i64 tN, .int .i64 tD]) ∧ Below w.heap.size w w'))
    (D1 : Hid (∀ w, Calls Try.prog 20 #[.int .i64 t] w fun e w' => e = .returned (.int .i64 0) ∧ w = w'))
    (D2 : Hid (∀ w, Calls Try.prog 21 #[.agg #[.int .i64 n, .int .i64 d]] w fun e w' => e = .returned (.int .i64 0) ∧ Below w.heap.size w w'))
    (D3 : Hid (∀ w, Calls Try.prog 22 #[.int .i64 t, .agg #[.int .i64 n, .int .i64 d]] w fun e w' => e = .returned (.tuple #[.int .i64 0, .bool false]) ∧ Below w.heap.size w w')) :
    Calls Try.prog 3 #[.int .i64 t, .int .i64 r, .agg #[.int .i64 n, .int .i64 d]] w fun e w' => e = .returned (.bool true) ∧ Below w.heap.size w w' := by
  have R0 := Lib.hid (OneB.start w 23 #[.int .i64 n, .int .i64 d])
  go_enter Try.func3, Try.ntmps3
  go_wp2_with fail
  refine (awake_any _).mono ?_
  rintro e w1 ⟨rfl, hb1⟩
  have R1 := Lib.hid (OneB.later hb1 R0.out)
  clear hb1 R0
  go_wp2_with fail
  refine (C1.out _).mono ?_
  rintro e w2 ⟨rfl, hb2⟩
  have R2 := Lib.hid (OneB.alloc (OneB.later hb2 R1.out) (.cells #[.int .i64 tN, .int .i64 tD] 23))
  have K2 := Lib.hid (Bk.new w2 23 #[.int .i64 tN, .int .i64 tD])
  clear hb2 R1 C1
  have c2 := bkf2 R2.out.k
  go_wp2_with fail
  obtain ⟨g2, hg2⟩ : ∃ g, w2.heap.size = g := ⟨_, rfl⟩
  obtain ⟨wA, hwA⟩ : ∃ W, w2.alloc (.cells #[.int .i64 tN, .int .i64 tD] 23) = W := ⟨_, rfl⟩
  rw [hwA] at R2 K2 c2 ⊢
  rw [hg2] at K2 ⊢
  clear hwA hg2 c2
  refine (C2.out _).mono ?_
  rintro e w3 ⟨rfl, hb3⟩
  have R3 := Lib.hid (OneB.later hb3 R2.out)
  have K3 := Lib.hid (K2.out.later hb3)
  clear hb3 R2 K2 C2
  go_wp2_with fail
  refine (C3.out _).mono ?_
  rintro e w' ⟨rfl, rfl⟩
  clear C3
  have hB3 : Below w3.heap.size w3 w3 := Below.refl _ _
  have HC : Hid (∀ W, Below w3.heap.size w3 W → W.cell? ⟨g2, 0, none⟩ = some (.int .i64 tN) ∧ W.cell? ⟨g2, 1, none⟩ = some (.int .i64 tD)) := fun W hb => bkf2 (K3.out.later hb)
  go_wp2
  refine wp_region_held_drew (S := fun w' : World => (w'.cell? ⟨g2, 0, none⟩ = some (.int .i64 tN) ∧ w'.cell? ⟨g2, 1, none⟩ = some (.int .i64 tD)) ∧ Below w3.heap.size w3 w') (by kernel_rfl) ⟨HC.out _ (Below.drew hB3), Below.drew hB3⟩ (fun hHeld => ?_)
  refine wpAnyH_take (i := 0) (v := .int .i64 0) rfl (by kernel_rfl) (by kernel_rfl) (by kernel_rfl) (fun _ _ _ h => h) (Or.inl ⟨by rfl, fun W hW => ?_⟩) (by assumption) ?_
  · go_split_ands; go_simp
  simp only [Act.put, List.getElem_toArray, List.getElem_cons_succ, List.getElem_cons_zero, List.setIfInBounds_toArray, List.set_cons_zero, List.set_cons_succ]
  refine wpAnyH_take (i := 1) (v := .bool false) rfl (by kernel_rfl) (by kernel_rfl) (by kernel_rfl) (fun _ _ _ h => h) (Or.inl ⟨by rfl, fun W hW => ?_⟩) (by assumption) ?_
  · go_split_ands; go_simp
  simp only [Act.put, List.getElem_toArray, List.getElem_cons_succ, List.getElem_cons_zero, List.setIfInBounds_toArray, List.set_cons_zero, List.set_cons_succ]
  refine wpAnyH_take (i := 2) (v := .bool false) rfl (by kernel_rfl) (by kernel_rfl) (by kernel_rfl) (fun _ _ _ h => h) (Or.inl ⟨by rfl, fun W hW => ?_⟩) (by assumption) ?_
  · go_split_ands; go_simp
  simp only [Act.put, List.getElem_toArray, List.getElem_cons_succ, List.getElem_cons_zero, List.setIfInBounds_toArray, List.set_cons_zero, List.set_cons_succ]
  refine wpAnyH_take (i := 3) (v := undef) rfl (by kernel_rfl) (by kernel_rfl) (by kernel_rfl) (fun _ _ _ h => h) (Or.inr ⟨by rfl, rfl⟩) (by assumption) ?_
  simp only [Act.put, List.getElem_toArray, List.getElem_cons_succ, List.getElem_cons_zero, List.setIfInBounds_toArray, List.set_cons_zero, List.set_cons_succ]
  refine wpAnyH_take (i := 4) (v := undef) rfl (by kernel_rfl) (by kernel_rfl) (by kernel_rfl) (fun _ _ _ h => h) (Or.inr ⟨by rfl, rfl⟩) (by assumption) ?_
  simp only [Act.put, List.getElem_toArray, List.getElem_cons_succ, List.getElem_cons_zero, List.setIfInBounds_toArray, List.set_cons_zero, List.set_cons_succ]
  refine wpAnyH_take (i := 5) (v := undef) rfl (by kernel_rfl) (by kernel_rfl) (by kernel_rfl) (fun _ _ _ h => h) (Or.inr ⟨by rfl, rfl⟩) (by assumption) ?_
  simp only [Act.put, List.getElem_toArray, List.getElem_cons_succ, List.getElem_cons_zero, List.setIfInBounds_toArray, List.set_cons_zero, List.set_cons_succ]
  refine wpAnyH_take (i := 6) (v := undef) rfl (by kernel_rfl) (by kernel_rfl) (by kernel_rfl) (fun _ _ _ h => h) (Or.inr ⟨by rfl, rfl⟩) (by assumption) ?_
  simp only [Act.put, List.getElem_toArray, List.getElem_cons_succ, List.getElem_cons_zero, List.setIfInBounds_toArray, List.set_cons_zero, List.set_cons_succ]
  refine wpAnyH_take (i := 7) (v := undef) rfl (by kernel_rfl) (by kernel_rfl) (by kernel_rfl) (fun _ _ _ h => h) (Or.inr ⟨by rfl, rfl⟩) (by assumption) ?_
  simp only [Act.put, List.getElem_toArray, List.getElem_cons_succ, List.getElem_cons_zero, List.setIfInBounds_toArray, List.set_cons_zero, List.set_cons_succ]
  refine wpAnyH_take (i := 8) (v := undef) rfl (by kernel_rfl) (by kernel_rfl) (by kernel_rfl) (fun _ _ _ h => h) (Or.inr ⟨by rfl, rfl⟩) (by assumption) ?_
  simp only [Act.put, List.getElem_toArray, List.getElem_cons_succ, List.getElem_cons_zero, List.setIfInBounds_toArray, List.set_cons_zero, List.set_cons_succ]
  refine wpAnyH_take (i := 9) (v := undef) rfl (by kernel_rfl) (by kernel_rfl) (by kernel_rfl) (fun _ _ _ h => h) (Or.inr ⟨by rfl, rfl⟩) (by assumption) ?_
  simp only [Act.put, List.getElem_toArray, List.getElem_cons_succ, List.getElem_cons_zero, List.setIfInBounds_toArray, List.set_cons_zero, List.set_cons_succ]
  refine wpAnyH_take (i := 10) (v := undef) rfl (by kernel_rfl) (by kernel_rfl) (by kernel_rfl) (fun _ _ _ h => h) (Or.inr ⟨by rfl, rfl⟩) (by assumption) ?_
  simp only [Act.put, List.getElem_toArray, List.getElem_cons_succ, List.getElem_cons_zero, List.setIfInBounds_toArray, List.set_cons_zero, List.set_cons_succ]
  refine wpAnyH_take (i := 11) (v := .bool false) rfl (by kernel_rfl) (by kernel_rfl) (by kernel_rfl) (fun _ _ _ h => h) (Or.inl ⟨by rfl, fun W hW => ?_⟩) (by assumption) ?_
  · go_split_ands; go_simp
  simp only [Act.put, List.getElem_toArray, List.getElem_cons_succ, List.getElem_cons_zero, List.setIfInBounds_toArray, List.set_cons_zero, List.set_cons_succ]
  refine wpAnyH_take (i := 12) (v := .bool false) rfl (by kernel_rfl) (by kernel_rfl) (by kernel_rfl) (fun _ _ _ h => h) (Or.inl ⟨by rfl, fun W hW => ?_⟩) (by assumption) ?_
  · go_split_ands; go_simp
  simp only [Act.put, List.getElem_toArray, List.getElem_cons_succ, List.getElem_cons_zero, List.setIfInBounds_toArray, List.set_cons_zero, List.set_cons_succ]
  refine wpAnyH_take (i := 13) (v := .int .i64 0) rfl (by kernel_rfl) (by kernel_rfl) (by kernel_rfl) (fun _ _ _ h => h) (Or.inl ⟨by rfl, fun W hW => ?_⟩) (by assumption) ?_
  · go_split_ands; go_simp
  simp only [Act.put, List.getElem_toArray, List.getElem_cons_succ, List.getElem_cons_zero, List.setIfInBounds_toArray, List.set_cons_zero, List.set_cons_succ]
  refine wpAnyH_take (i := 14) (v := .bool true) rfl (by kernel_rfl) (by kernel_rfl) (by kernel_rfl) (fun _ _ _ h => h) (Or.inl ⟨by rfl, fun W hW => ?_⟩) (by assumption) ?_
  · go_split_ands; go_simp
  simp only [Act.put, List.getElem_toArray, List.getElem_cons_succ, List.getElem_cons_zero, List.setIfInBounds_toArray, List.set_cons_zero, List.set_cons_succ]
  refine wpAnyH_take (i := 15) (v := .bool true) rfl (by kernel_rfl) (by kernel_rfl) (by kernel_rfl) (fun _ _ _ h => h) (Or.inl ⟨by rfl, fun W hW => ?_⟩) (by assumption) ?_
  · go_split_ands; go_simp
  simp only [Act.put, List.getElem_toArray, List.getElem_cons_succ, List.getElem_cons_zero, List.setIfInBounds_toArray, List.set_cons_zero, List.set_cons_succ]
  refine wpAnyH_take (i := 16) (v := .int .i64 0) rfl (by kernel_rfl) (by kernel_rfl) (by kernel_rfl) (fun _ _ _ h => h) (Or.inl ⟨by rfl, fun W hW => ?_⟩) (by assumption) ?_
  · go_split_ands; go_simp
  simp only [Act.put, List.getElem_toArray, List.getElem_cons_succ, List.getElem_cons_zero, List.setIfInBounds_toArray, List.set_cons_zero, List.set_cons_succ]
  refine wpAnyH_take (i := 17) (v := .bool false) rfl (by kernel_rfl) (by kernel_rfl) (by kernel_rfl) (fun _ _ _ h => h) (Or.inl ⟨by rfl, fun W hW => ?_⟩) (by assumption) ?_
  · go_split_ands; go_simp
  simp only [Act.put, List.getElem_toArray, List.getElem_cons_succ, List.getElem_cons_zero, List.setIfInBounds_toArray, List.set_cons_zero, List.set_cons_succ]
  refine wpAnyH_take (i := 18) (v := .bool false) rfl (by kernel_rfl) (by kernel_rfl) (by kernel_rfl) (fun _ _ _ h => h) (Or.inl ⟨by rfl, fun W hW => ?_⟩) (by assumption) ?_
  · go_split_ands; go_simp
  simp only [Act.put, List.getElem_toArray, List.getElem_cons_succ, List.getElem_cons_zero, List.setIfInBounds_toArray, List.set_cons_zero, List.set_cons_succ]
  refine wpAnyH_take (i := 19) (v := .agg #[.int .i64 tN, .int .i64 tD]) rfl (by kernel_rfl) (by kernel_rfl) (by kernel_rfl) (fun _ _ _ h => h) (Or.inl ⟨by rfl, fun W hW => ?_⟩) (by assumption) ?_
  · go_split_ands; go_simp
  simp only [Act.put, List.getElem_toArray, List.getElem_cons_succ, List.getElem_cons_zero, List.setIfInBounds_toArray, List.set_cons_zero, List.set_cons_succ]
  refine wpAnyH_take (i := 20) (v := .int .i64 t) rfl (by kernel_rfl) (by kernel_rfl) (by kernel_rfl) (fun _ _ _ h => h) (Or.inl ⟨by rfl, fun W hW => ?_⟩) (by assumption) ?_
  · go_split_ands; go_simp
  simp only [Act.put, List.getElem_toArray, List.getElem_cons_succ, List.getElem_cons_zero, List.setIfInBounds_toArray, List.set_cons_zero, List.set_cons_succ]
  refine wpAnyH_take (i := 21) (v := .int .i64 r) rfl (by kernel_rfl) (by kernel_rfl) (by kernel_rfl) (fun _ _ _ h => h) (Or.inl ⟨by rfl, fun W hW => ?_⟩) (by assumption) ?_
  · go_split_ands; go_simp
  simp only [Act.put, List.getElem_toArray, List.getElem_cons_succ, List.getElem_cons_zero, List.setIfInBounds_toArray, List.set_cons_zero, List.set_cons_succ]
  refine wpAnyH_ready (rs := [22]) (by kernel_rfl) (by simp) ?_
  refine AllReadyH.cons rfl (fun K hK => ?_) AllReadyH.nil
  rw [if_pos (by rfl)]
  go_simp
  refine (CQ.out _).mono ?_
  rintro e w4 ⟨rfl, hb4⟩
  have hb4' : Below w3.heap.size w3 w4 := (Below.drew hB3).trans (hb4.mono (Below.drew hB3).size)
  refine hK.out _ _ ⟨HC.out _ hb4', hb4'⟩ (fun hHeld => ?_)
  clear hK K hb4
  try simp only [Act.put, List.getElem_toArray, List.getElem_cons_succ, List.getElem_cons_zero, List.setIfInBounds_toArray, List.set_cons_zero, List.set_cons_succ]
  refine wpAnyH_take (i := 23) (v := .bool false) rfl (by kernel_rfl) (by kernel_rfl) (by kernel_rfl) (fun _ _ _ h => h) (Or.inl ⟨by rfl, fun W hW => ?_⟩) (by assumption) ?_
  · go_split_ands; go_simp
  simp only [Act.put, List.getElem_toArray, List.getElem_cons_succ, List.getElem_cons_zero, List.setIfInBounds_toArray, List.set_cons_zero, List.set_cons_succ]
  refine wpAnyH_take (i := 24) (v := .bool false) rfl (by kernel_rfl) (by kernel_rfl) (by kernel_rfl) (fun _ _ _ h => h) (Or.inl ⟨by rfl, fun W hW => ?_⟩) (by assumption) ?_
  · go_split_ands; go_simp
  simp only [Act.put, List.getElem_toArray, List.getElem_cons_succ, List.getElem_cons_zero, List.setIfInBounds_toArray, List.set_cons_zero, List.set_cons_succ]
  refine wpAnyH_take (i := 25) (v := .bool false) rfl (by kernel_rfl) (by kernel_rfl) (by kernel_rfl) (fun _ _ _ h => h) (Or.inl ⟨by rfl, fun W hW => ?_⟩) (by assumption) ?_
  · go_split_ands; go_simp
  simp only [Act.put, List.getElem_toArray, List.getElem_cons_succ, List.getElem_cons_zero, List.setIfInBounds_toArray, List.set_cons_zero, List.set_cons_succ]
  refine wpAnyH_take (i := 26) (v := .bool false) rfl (by kernel_rfl) (by kernel_rfl) (by kernel_rfl) (fun _ _ _ h => h) (Or.inl ⟨by rfl, fun W hW => ?_⟩) (by assumption) ?_
  · go_split_ands; go_simp
  simp only [Act.put, List.getElem_toArray, List.getElem_cons_succ, List.getElem_cons_zero, List.setIfInBounds_toArray, List.set_cons_zero, List.set_cons_succ]
  refine wpAnyH_done (by kernel_rfl) ?_ _
  have R4 := Lib.hid (OneB.later hb4' R3.out)
  clear hb4' R3 K3 HC hB3 CQ
  have c4 := bkf2 R4.out.k
  go_wp2_with fail
  refine (D1.out _).mono ?_
  rintro e w' ⟨rfl, rfl⟩
  clear D1
  go_wp2_with fail
  refine (D2.out _).mono ?_
  rintro e w5 ⟨rfl, hb5⟩
  have R5 := Lib.hid (OneB.later hb5 R4.out)
  clear hb5 R4 D2 c4
  have c5 := bkf2 R5.out.k
  go_wp2_with fail
  refine (D3.out _).mono ?_
  rintro e w6 ⟨rfl, hb6⟩
  have R6 := Lib.hid (OneB.later hb6 R5.out)
  clear hb6 R5 D3 c5
  go_wp2
  go_ret
  exact ⟨rfl, R6.out.b⟩

end Go.Proofs.Ytlpkjkjgmenhkaa

namespace Go.Proofs.Ytlpkjkjgmenhkaa
open Go.RowKit

open Go.Shelf

theorem rngE_or (lo hi : Int) (xs : List Int) : rngE lo hi xs = 0 ∨ rngE lo hi xs = 2 := by
  unfold rngE
  split
  · exact .inl rfl
  · exact .inr rfl
theorem tails_any (t r n d : Int) (w : World) (hn : -9223372036854775808 ≤ n ∧ n ≤ 9223372036854775807) (hd : -9223372036854775808 ≤ d ∧ d ≤ 9223372036854775807) :
    Calls Try.prog 3 #[.int .i64 t, .int .i64 r, .agg #[.int .i64 n, .int .i64 d]] w fun e w' => e = .returned (.bool true) ∧ Below w.heap.size w w' := by
  have C1 := fun w => TailOf_any t r w
  have C2 := fun w => MinimumRight_any t n d w hn hd
  have C3 := fun w => refTailErr_any t r w
  have D1 := fun w => refTrialsErr_any t w
  have D2 := fun w => refLevelErr_any n d w hn hd
  have hE : mrE t n d = firstNZ [rngE 0 29 [t], lvE n d] := rfl
  have hF : rngE 0 29 [t] = 0 → lvE n d = 0 → ∀ w, Calls Try.prog 22 #[.int .i64 t, .agg #[.int .i64 n, .int .i64 d]] w fun e w' => e = .returned (.tuple #[.int .i64 (mqR t.toNat n d).1, .bool (mqR t.toNat n d).2]) ∧ Below w.heap.size w w' := by
    intro h1 h2 w
    have h3 := rngE_zero h1
    obtain ⟨_, h4, h5, h6⟩ := lvE_zero h2
    have := refMinimumRight_any t.toNat n d (by omega) (by omega) (by omega) w
    rwa [show ((t.toNat : Nat) : Int) = t by omega] at this
  have hM : rngE 0 29 [t] = 0 → lvE n d = 0 → (∃ V : Int, mrR t n d = (V, 0) ∧ mqR t.toNat n d = (V, true)) ∨ (mrR t n d = (0, 12) ∧ mqR t.toNat n d = (0, false)) := by
    intro h1 h2
    have h0 : mrE t n d = 0 := by rw [hE, h1, h2]; rfl
    unfold mrR mqR
    rw [if_pos h0]
    cases h : (List.range (t.toNat + 1)).find? (mrB t.toNat n d) with
    | none => exact .inr ⟨rfl, rfl⟩
    | some v => exact .inl ⟨v, rfl, rfl⟩
  rcases tlE_two t r with h | h
  · obtain ⟨ht, hr⟩ := tlE_zero h
    have CQ := fun w => refTailOf_any t.toNat r.toNat (by omega) (by omega) w
    rw [show ((t.toNat : Nat) : Int) = t by omega, show ((r.toNat : Nat) : Int) = r by omega] at CQ
    have e1 : tlN t r = fN (tW t.toNat r.toNat) (p2 t.toNat) := if_pos h
    have e2 : tlD t r = fD (tW t.toNat r.toNat) (p2 t.toNat) := if_pos h
    rw [e1, e2, h] at C1
    rw [h] at C3
    have h1 : rngE 0 29 [t] = 0 := firstNZ_zero h _ (by simp)
    rw [h1] at D1 hE
    by_cases hl : lvE n d = 0
    · rw [hl] at D2
      have F := hF h1 hl
      rcases hM h1 hl with ⟨V, m1, m2⟩ | ⟨m1, m2⟩
      · rw [m1] at C2; rw [m2] at F
        exact tails_0f t r n d w _ _ V C1 C2 C3 CQ D1 D2 F
      · rw [m1] at C2; rw [m2] at F
        exact tails_0n t r n d w _ _ C1 C2 C3 CQ D1 D2 F
    · have m1 : mrR t n d = (0, lvE n d) := by
        have : mrE t n d = lvE n d := by rw [hE]; simp [firstNZ, hl]
        unfold mrR
        rw [if_neg (by rw [this]; exact hl), this]
      rw [m1] at C2
      exact tails_0l t r n d w _ _ _ hl C1 C2 C3 CQ D1 D2
  · have e1 : tlN t r = 0 := if_neg (by omega)
    have e2 : tlD t r = 0 := if_neg (by omega)
    rw [e1, e2, h] at C1
    rw [h] at C3
    rcases rngE_or 0 29 [t] with h1 | h1
    · rw [h1] at D1 hE
      by_cases hl : lvE n d = 0
      · rw [hl] at D2
        have F := hF h1 hl
        rcases hM h1 hl with ⟨V, m1, m2⟩ | ⟨m1, m2⟩
        · rw [m1] at C2; rw [m2] at F
          exact tails_2f t r n d w V C1 C2 C3 D1 D2 F
        · rw [m1] at C2; rw [m2] at F
          exact tails_2n t r n d w C1 C2 C3 D1 D2 F
      · have m1 : mrR t n d = (0, lvE n d) := by
          have : mrE t n d = lvE n d := by rw [hE]; simp [firstNZ, hl]
          unfold mrR
          rw [if_neg (by rw [this]; exact hl), this]
        rw [m1] at C2
        exact tails_2l t r n d w _ hl C1 C2 C3 D1 D2
    · rw [h1] at D1 hE
      have m1 : mrR t n d = (0, 2) := by
        have : mrE t n d = 2 := by rw [hE]; simp [firstNZ]
        unfold mrR
        rw [if_neg (by rw [this]; decide), this]
      rw [m1] at C2
      exact tails_2r t r n d w C1 C2 C3 D1

end Go.Proofs.Ytlpkjkjgmenhkaa


namespace Go.Proofs.Ytlpkjkjgmenhkaa
open Go.RowKit

def fNt (t r : Nat) : Int := fN (tW t r) (p2 t)
def fDt (t r : Nat) : Int := fD (tW t r) (p2 t)
def okC (t r : Nat) : Bool := lowB (fNt t r) (fDt t r) && (fromB (-1000000000) 1000000000 [fNt t r] && fromB 1 1000000000 [fDt t r]) && decide (0 ≤ fNt t r) && decide (fNt t r ≤ 536870912) && decide (1 ≤ fDt t r) && decide (fDt t r ≤ 536870912)
def okS (t r : Nat) : Bool :=
  decide (fN (fNt t r * fDt t (t + 1 - r) + fNt t (t + 1 - r) * fDt t r) (fDt t r * fDt t (t + 1 - r)) = 1) && decide (fD (fNt t r * fDt t (t + 1 - r) + fNt t (t + 1 - r) * fDt t r) (fDt t r * fDt t (t + 1 - r)) = 1) && decide (0 ≤ cmpF (fNt t (r - 1)) (fDt t (r - 1)) (fNt t r) (fDt t r))
theorem okC_all : ∀ t, t < 30 → ∀ r, r < t + 1 → okC t r = true := by decide +kernel
theorem okS_all : ∀ t, t < 30 → ∀ r, r < t → okS t (r + 1) = true := by decide +kernel
theorem ok0_all : ∀ t, t < 30 → fNt t 0 = 1 ∧ fDt t 0 = 1 := by decide +kernel
theorem okC_at {t r : Nat} (ht : t < 30) (hr : r ≤ t) : lowB (fNt t r) (fDt t r) = true ∧ (fromB (-1000000000) 1000000000 [fNt t r] && fromB 1 1000000000 [fDt t r]) = true ∧ (0 ≤ fNt t r ∧ fNt t r ≤ 536870912) ∧ 1 ≤ fDt t r ∧ fDt t r ≤ 536870912 := by
  have h := okC_all t ht r (by omega)
  simp only [okC, Bool.and_eq_true, decide_eq_true_eq] at h
  obtain ⟨⟨⟨⟨⟨a1, a2⟩, a3⟩, a4⟩, a5⟩, a6⟩ := h
  exact ⟨a1, by rw [a2.1, a2.2]; rfl, ⟨a3, a4⟩, a5, a6⟩
theorem okS_at {t r : Nat} (ht : t < 30) (hr : r ≤ t) (h0 : 0 < r) : fN (fNt t r * fDt t (t + 1 - r) + fNt t (t + 1 - r) * fDt t r) (fDt t r * fDt t (t + 1 - r)) = 1 ∧ fD (fNt t r * fDt t (t + 1 - r) + fNt t (t + 1 - r) * fDt t r) (fDt t r * fDt t (t + 1 - r)) = 1 ∧ 0 ≤ cmpF (fNt t (r - 1)) (fDt t (r - 1)) (fNt t r) (fDt t r) := by
  have h := okS_all t ht (r - 1) (by omega)
  rw [show r - 1 + 1 = r by omega] at h
  simp only [okS, Bool.and_eq_true, decide_eq_true_eq] at h
  exact ⟨h.1.1, h.1.2, h.2⟩
/-- A tail's call at numbers that are valid. -/
theorem tail_ok (t r : Nat) (ht : t < 30) (hr : r ≤ t) (w : World) :
    Calls Try.prog 16 #[.int .i64 t, .int .i64 r] w fun e w' => e = .returned (.tuple #[.agg #[.int .i64 (fNt t r), .int .i64 (fDt t r)], .int .i64 0]) ∧ Below w.heap.size w w' := by
  have h := TailOf_any t r w
  have h0 : tlE (t : Int) (r : Int) = 0 := by
    unfold tlE
    rw [show rngE 0 29 [(t : Int)] = 0 by simp [rngE, fromB]; omega, show rngE 0 (t : Int) [(r : Int)] = 0 by simp [rngE, fromB]; omega]
    rfl
  have e1 : tlN (t : Int) (r : Int) = fNt t r := by unfold tlN; rw [if_pos h0]; rfl
  have e2 : tlD (t : Int) (r : Int) = fDt t r := by unfold tlD; rw [if_pos h0]; rfl
  rwa [h0, e1, e2] at h
/-- What a fraction's calls answer. -/
def FracOk (N D : Int) : Prop := (∀ w, Calls Try.prog 24 #[.agg #[.int .i64 N, .int .i64 D]] w fun e w' => e = .returned (.bool true) ∧ Below w.heap.size w w') ∧ ∀ w, Calls Try.prog 25 #[.agg #[.int .i64 N, .int .i64 D]] w fun e w' => e = .returned (.bool true) ∧ Below w.heap.size w w'
theorem frac_ok {t r : Nat} (ht : t < 30) (hr : r ≤ t) : FracOk (fNt t r) (fDt t r) := by
  obtain ⟨h1, h2, h3, h4, h5⟩ := okC_at ht hr
  refine ⟨fun w => ?_, fun w => ?_⟩
  · have := bIsLowest_any (fNt t r) (fDt t r) (by omega) (by omega) (by omega) w
    rwa [h1] at this
  · have := bIsSmall_any (fNt t r) (fDt t r) w
    rwa [h2] at this
theorem cmp_ok {t r : Nat} (ht : t < 30) (hr : r ≤ t) {n d : Int} (hn : 0 ≤ n ∧ n ≤ d) (hd : 0 < d ∧ d ≤ 1000000000) (w : World) :
    Calls Try.prog 27 #[.agg #[.int .i64 (fNt t r), .int .i64 (fDt t r)], .agg #[.int .i64 n, .int .i64 d]] w fun e w' => e = .returned (.int .i64 (cmpF (fNt t r) (fDt t r) n d)) ∧ Below w.heap.size w w' := by
  obtain ⟨h1, h2, h3, h4, h5⟩ := okC_at ht hr
  exact bCmp_any _ _ _ _ w (by omega) (by omega) (by omega) (by omega)
theorem mrB_cmp' {t r : Nat} (ht : t < 30) (hr : r ≤ t) (n d : Int) : mrB t n d r = decide (cmpF (fNt t r) (fDt t r) n d ≤ 0) := mrB_cmp t r n d ht hr

end Go.Proofs.Ytlpkjkjgmenhkaa

namespace Go.Proofs.Ytlpkjkjgmenhkaa
open Go.RowKit

open Go.Shelf
attribute [local go_sem] undef

set_option maxRecDepth 100000 in
set_option maxHeartbeats 8000000 in
theorem chances_zn (t r : Nat) (n d : Int) (w : World) (aN aD : Int) (uN uD cu : Int)
    (hr : r = 0)
    (C3 : Hid (∀ w, Calls Try.prog 18 #[.int .i64 t, .int .i64 r] w fun e w' => e = .returned (.int .i64 0) ∧ w = w'))
    (D2 : Hid (∀ w, Calls Try.prog 21 #[.agg #[.int .i64 n, .int .i64 d]] w fun e w' => e = .returned (.int .i64 0) ∧ Below w.heap.size w w'))
    (T0 : Hid (∀ w, Calls Try.prog 16 #[.int .i64 t, .int .i64 0] w fun e w' => e = .returned (.tuple #[.agg #[.int .i64 1, .int .i64 1], .int .i64 0]) ∧ Below w.heap.size w w'))
    (TA : Hid (∀ w, Calls Try.prog 16 #[.int .i64 t, .int .i64 r] w fun e w' => e = .returned (.tuple #[.agg #[.int .i64 aN, .int .i64 aD], .int .i64 0]) ∧ Below w.heap.size w w'))
    (FA : Hid (FracOk aN aD))
    (MR : Hid (∀ w, Calls Try.prog 17 #[.int .i64 t, .agg #[.int .i64 n, .int .i64 d]] w fun e w' => e = .returned (.tuple #[.int .i64 0, .int .i64 12]) ∧ Below w.heap.size w w'))
    (TU : Hid (∀ w, Calls Try.prog 16 #[.int .i64 t, .int .i64 t] w fun e w' => e = .returned (.tuple #[.agg #[.int .i64 uN, .int .i64 uD], .int .i64 0]) ∧ Below w.heap.size w w'))
    (FU : Hid (FracOk uN uD))
    (CU : Hid (∀ w, Calls Try.prog 27 #[.agg #[.int .i64 uN, .int .i64 uD], .agg #[.int .i64 n, .int .i64 d]] w fun e w' => e = .returned (.int .i64 cu) ∧ Below w.heap.size w w'))
    (hcu : 0 < cu) :
    Calls Try.prog 4 #[.int .i64 t, .int .i64 r, .agg #[.int .i64 n, .int .i64 d]] w fun e w' => e = .returned (.bool true) ∧ Below w.heap.size w w' := by
  subst hr
  obtain ⟨FA1, FA2⟩ := FA.out
  replace FA1 := Lib.hid FA1
  replace FA2 := Lib.hid FA2
  obtain ⟨FU1, FU2⟩ := FU.out
  replace FU1 := Lib.hid FU1
  replace FU2 := Lib.hid FU2
  have CW := Lib.hid (fun w => bWhole_any 1 w)
  have R0 := Lib.hid (OneB.start w 23 #[.int .i64 n, .int .i64 d])
  go_enter Try.func4, Try.ntmps4
  have cc0 := bkf2 R0.out.k
  go_wp2_with fail
  clear cc0 
  refine (awake_any _).mono ?_
  rintro e w' ⟨rfl, hb⟩
  have R1 := Lib.hid (OneB.later hb R0.out)
  clear hb R0 
  have cc0 := bkf2 R1.out.k
  go_wp2_with fail
  clear cc0 
  refine (C3.out _).mono ?_
  rintro e w' ⟨rfl, rfl⟩
  have cc0 := bkf2 R1.out.k
  go_wp2_with fail
  clear cc0 
  refine (D2.out _).mono ?_
  rintro e w' ⟨rfl, hb⟩
  have R2 := Lib.hid (OneB.later hb R1.out)
  clear hb R1 
  have cc0 := bkf2 R2.out.k
  go_wp2_with fail
  clear cc0 
  refine (T0.out _).mono ?_
  rintro e wt3 ⟨rfl, hb⟩
  have R3 := Lib.hid (OneB.alloc (OneB.later hb R2.out) (.cells #[.int .i64 1, .int .i64 1] 23))
  have K3 := Lib.hid (Bk.new wt3 23 #[.int .i64 1, .int .i64 1])
  clear hb R2 
  have cc0 := bkf2 R3.out.k
  have ccK := bkf2 K3.out
  go_wp2_with fail
  clear cc0 ccK
  obtain ⟨gK, hgK⟩ : ∃ g, wt3.heap.size = g := ⟨_, rfl⟩
  obtain ⟨wa3, hwa3⟩ : ∃ W, wt3.alloc (.cells #[.int .i64 1, .int .i64 1] 23) = W := ⟨_, rfl⟩
  rw [hwa3] at R3 K3 ⊢
  rw [hgK] at K3 ⊢
  clear hwa3 hgK
  refine (TA.out _).mono ?_
  rintro e wt4 ⟨rfl, hb⟩
  have R4 := Lib.hid (OneB.alloc (OneB.later hb R3.out) (.cells #[.int .i64 aN, .int .i64 aD] 23))
  have K4 := Lib.hid ((K3.out.later hb).alloc (.cells #[.int .i64 aN, .int .i64 aD] 23))
  have A4 := Lib.hid (Bk.new wt4 23 #[.int .i64 aN, .int .i64 aD])
  clear hb R3 K3
  have cc0 := bkf2 R4.out.k
  have ccK := bkf2 K4.out
  have ccA := bkf2 A4.out
  go_wp2
  clear cc0 ccK ccA
  obtain ⟨gA, hgA⟩ : ∃ g, wt4.heap.size = g := ⟨_, rfl⟩
  obtain ⟨wa4, hwa4⟩ : ∃ W, wt4.alloc (.cells #[.int .i64 aN, .int .i64 aD] 23) = W := ⟨_, rfl⟩
  rw [hwa4] at R4 K4 A4 ⊢
  rw [hgA] at A4 ⊢
  clear hwa4 hgA
  have hBB : Below wa4.heap.size wa4 wa4 := Below.refl _ _
  have HC : Hid (∀ W, Below wa4.heap.size wa4 W → (W.cell? ⟨gK, 0, none⟩ = some (.int .i64 1) ∧ W.cell? ⟨gK, 1, none⟩ = some (.int .i64 1)) ∧ (W.cell? ⟨gA, 0, none⟩ = some (.int .i64 aN) ∧ W.cell? ⟨gA, 1, none⟩ = some (.int .i64 aD))) := fun W hb => ⟨bkf2 (K4.out.later hb), bkf2 (A4.out.later hb)⟩
  first | (go_region_held3 (fun w' : World => ((w'.cell? ⟨gK, 0, none⟩ = some (.int .i64 1) ∧ w'.cell? ⟨gK, 1, none⟩ = some (.int .i64 1)) ∧ (w'.cell? ⟨gA, 0, none⟩ = some (.int .i64 aN) ∧ w'.cell? ⟨gA, 1, none⟩ = some (.int .i64 aD))) ∧ Below wa4.heap.size wa4 w') ((refine (fun hI => ⟨HC.out _ hI, hI⟩) ?_; repeat (first | with_reducible assumption | (go_split_ands; with_reducible assumption) | with_reducible refine belowA ?_ _ | with_reducible refine Below.drew ?_))) (first | (go_at_call 23; ((with_reducible refine (CW.out _).mono ?_)); rintro e wx ⟨rfl, hbwx⟩; have hbwx' : Below wa4.heap.size wa4 wx := Below.trans (by first | assumption | (go_split_ands; assumption)) (hbwx.mono (Below.size (by first | assumption | (go_split_ands; assumption)))); clear hbwx) | (go_at_call 24; ((with_reducible refine (FA1.out _).mono ?_)); rintro e wy ⟨rfl, hbwy⟩; have hbwy' : Below wa4.heap.size wa4 wy := Below.trans (by first | assumption | (go_split_ands; assumption)) (hbwy.mono (Below.size (by first | assumption | (go_split_ands; assumption)))); clear hbwy) | (go_at_call 25; ((with_reducible refine (FA2.out _).mono ?_)); rintro e wz ⟨rfl, hbwz⟩; have hbwz' : Below wa4.heap.size wa4 wz := Below.trans (by first | assumption | (go_split_ands; assumption)) (hbwz.mono (Below.size (by first | assumption | (go_split_ands; assumption)))); clear hbwz))) | fail
  all_goals
    have R5 := Lib.hid (OneB.later hbwz' R4.out)
    have K5 := Lib.hid (K4.out.later hbwz')
    have A5 := Lib.hid (A4.out.later hbwz')
    clear hbwz' hbwy' hbwx' hBB HC CW R4 K4 A4
    have cc0 := bkf2 R5.out.k
    have ccK := bkf2 K5.out
    have ccA := bkf2 A5.out
    go_wp2_with fail
    clear cc0 ccK ccA
    refine (MR.out _).mono ?_
    rintro e w' ⟨rfl, hb⟩
    have R6 := Lib.hid (OneB.later hb R5.out)
    have K6 := Lib.hid (K5.out.later hb)
    have A6 := Lib.hid (A5.out.later hb)
    clear hb R5 K5 A5
    have cc0 := bkf2 R6.out.k
    have ccK := bkf2 K6.out
    have ccA := bkf2 A6.out
    go_wp2_with fail
    clear cc0 ccK ccA
    refine (TU.out _).mono ?_
    rintro e wt7 ⟨rfl, hb⟩
    have R7 := Lib.hid (OneB.alloc (OneB.later hb R6.out) (.cells #[.int .i64 uN, .int .i64 uD] 23))
    have K7 := Lib.hid ((K6.out.later hb).alloc (.cells #[.int .i64 uN, .int .i64 uD] 23))
    have A7 := Lib.hid ((A6.out.later hb).alloc (.cells #[.int .i64 uN, .int .i64 uD] 23))
    have U7 := Lib.hid (Bk.new wt7 23 #[.int .i64 uN, .int .i64 uD])
    clear hb R6 K6 A6
    have cc0 := bkf2 R7.out.k
    have ccK := bkf2 K7.out
    have ccA := bkf2 A7.out
    have ccU := bkf2 U7.out
    go_wp2_with fail
    clear cc0 ccK ccA ccU
    obtain ⟨gU, hgU⟩ : ∃ g, wt7.heap.size = g := ⟨_, rfl⟩
    obtain ⟨wa7, hwa7⟩ : ∃ W, wt7.alloc (.cells #[.int .i64 uN, .int .i64 uD] 23) = W := ⟨_, rfl⟩
    rw [hwa7] at R7 K7 A7 U7 ⊢
    rw [hgU] at U7 ⊢
    clear hwa7 hgU
    refine (FU1.out _).mono ?_
    rintro e w' ⟨rfl, hb⟩
    have R8 := Lib.hid (OneB.later hb R7.out)
    have K8 := Lib.hid (K7.out.later hb)
    have A8 := Lib.hid (A7.out.later hb)
    have U8 := Lib.hid (U7.out.later hb)
    clear hb R7 K7 A7 U7
    have cc0 := bkf2 R8.out.k
    have ccK := bkf2 K8.out
    have ccA := bkf2 A8.out
    have ccU := bkf2 U8.out
    go_wp2_with fail
    clear cc0 ccK ccA ccU
    refine (FU2.out _).mono ?_
    rintro e w' ⟨rfl, hb⟩
    have R9 := Lib.hid (OneB.later hb R8.out)
    have K9 := Lib.hid (K8.out.later hb)
    have A9 := Lib.hid (A8.out.later hb)
    have U9 := Lib.hid (U8.out.later hb)
    clear hb R8 K8 A8 U8
    have cc0 := bkf2 R9.out.k
    have ccK := bkf2 K9.out
    have ccA := bkf2 A9.out
    have ccU := bkf2 U9.out
    go_wp2_with fail
    clear cc0 ccK ccA ccU
    refine (CU.out _).mono ?_
    rintro e w' ⟨rfl, hb⟩
    have R10 := Lib.hid (OneB.later hb R9.out)
    have K10 := Lib.hid (K9.out.later hb)
    have A10 := Lib.hid (A9.out.later hb)
    have U10 := Lib.hid (U9.out.later hb)
    clear hb R9 K9 A9 U9
    have cc0 := bkf2 R10.out.k
    have ccK := bkf2 K10.out
    have ccA := bkf2 A10.out
    have ccU := bkf2 U10.out
    go_wp2
    go_ret
    exact ⟨rfl, R10.out.b⟩

end Go.Proofs.Ytlpkjkjgmenhkaa

namespace Go.Proofs.Ytlpkjkjgmenhkaa
open Go.RowKit

open Go.Shelf
attribute [local go_sem] undef

set_option maxRecDepth 100000 in
set_option maxHeartbeats 8000000 in
theorem chances_z0 (t r : Nat) (n d : Int) (w : World) (aN aD : Int) (uN uD cu : Int)
    (hr : r = 0)
    (C3 : Hid (∀ w, Calls Try.prog 18 #[.int .i64 t, .int .i64 r] w fun e w' => e = .returned (.int .i64 0) ∧ w = w'))
    (D2 : Hid (∀ w, Calls Try.prog 21 #[.agg #[.int .i64 n, .int .i64 d]] w fun e w' => e = .returned (.int .i64 0) ∧ Below w.heap.size w w'))
    (T0 : Hid (∀ w, Calls Try.prog 16 #[.int .i64 t, .int .i64 0] w fun e w' => e = .returned (.tuple #[.agg #[.int .i64 1, .int .i64 1], .int .i64 0]) ∧ Below w.heap.size w w'))
    (TA : Hid (∀ w, Calls Try.prog 16 #[.int .i64 t, .int .i64 r] w fun e w' => e = .returned (.tuple #[.agg #[.int .i64 aN, .int .i64 aD], .int .i64 0]) ∧ Below w.heap.size w w'))
    (FA : Hid (FracOk aN aD))
    (MR : Hid (∀ w, Calls Try.prog 17 #[.int .i64 t, .agg #[.int .i64 n, .int .i64 d]] w fun e w' => e = .returned (.tuple #[.int .i64 0, .int .i64 0]) ∧ Below w.heap.size w w'))
    (WI : Hid (∀ w, Calls Try.prog 28 #[.int .i64 0, .int .i64 0, .int .i64 t] w fun e w' => e = .returned (.bool true) ∧ w = w'))
    (TU : Hid (∀ w, Calls Try.prog 16 #[.int .i64 t, .int .i64 0] w fun e w' => e = .returned (.tuple #[.agg #[.int .i64 uN, .int .i64 uD], .int .i64 0]) ∧ Below w.heap.size w w'))
    (FU : Hid (FracOk uN uD))
    (CU : Hid (∀ w, Calls Try.prog 27 #[.agg #[.int .i64 uN, .int .i64 uD], .agg #[.int .i64 n, .int .i64 d]] w fun e w' => e = .returned (.int .i64 cu) ∧ Below w.heap.size w w'))
    (hcu : ¬ 0 < cu) :
    Calls Try.prog 4 #[.int .i64 t, .int .i64 r, .agg #[.int .i64 n, .int .i64 d]] w fun e w' => e = .returned (.bool true) ∧ Below w.heap.size w w' := by
  subst hr
  obtain ⟨FA1, FA2⟩ := FA.out
  replace FA1 := Lib.hid FA1
  replace FA2 := Lib.hid FA2
  obtain ⟨FU1, FU2⟩ := FU.out
  replace FU1 := Lib.hid FU1
  replace FU2 := Lib.hid FU2
  have CW := Lib.hid (fun w => bWhole_any 1 w)
  have R0 := Lib.hid (OneB.start w 23 #[.int .i64 n, .int .i64 d])
  go_enter Try.func4, Try.ntmps4
  have cc0 := bkf2 R0.out.k
  go_wp2_with fail
  clear cc0 
  refine (awake_any _).mono ?_
  rintro e w' ⟨rfl, hb⟩
  have R1 := Lib.hid (OneB.later hb R0.out)
  clear hb R0 
  have cc0 := bkf2 R1.out.k
  go_wp2_with fail
  clear cc0 
  refine (C3.out _).mono ?_
  rintro e w' ⟨rfl, rfl⟩
  have cc0 := bkf2 R1.out.k
  go_wp2_with fail
  clear cc0 
  refine (D2.out _).mono ?_
  rintro e w' ⟨rfl, hb⟩
  have R2 := Lib.hid (OneB.later hb R1.out)
  clear hb R1 
  have cc0 := bkf2 R2.out.k
  go_wp2_with fail
  clear cc0 
  refine (T0.out _).mono ?_
  rintro e wt3 ⟨rfl, hb⟩
  have R3 := Lib.hid (OneB.alloc (OneB.later hb R2.out) (.cells #[.int .i64 1, .int .i64 1] 23))
  have K3 := Lib.hid (Bk.new wt3 23 #[.int .i64 1, .int .i64 1])
  clear hb R2 
  have cc0 := bkf2 R3.out.k
  have ccK := bkf2 K3.out
  go_wp2_with fail
  clear cc0 ccK
  obtain ⟨gK, hgK⟩ : ∃ g, wt3.heap.size = g := ⟨_, rfl⟩
  obtain ⟨wa3, hwa3⟩ : ∃ W, wt3.alloc (.cells #[.int .i64 1, .int .i64 1] 23) = W := ⟨_, rfl⟩
  rw [hwa3] at R3 K3 ⊢
  rw [hgK] at K3 ⊢
  clear hwa3 hgK
  refine (TA.out _).mono ?_
  rintro e wt4 ⟨rfl, hb⟩
  have R4 := Lib.hid (OneB.alloc (OneB.later hb R3.out) (.cells #[.int .i64 aN, .int .i64 aD] 23))
  have K4 := Lib.hid ((K3.out.later hb).alloc (.cells #[.int .i64 aN, .int .i64 aD] 23))
  have A4 := Lib.hid (Bk.new wt4 23 #[.int .i64 aN, .int .i64 aD])
  clear hb R3 K3
  have cc0 := bkf2 R4.out.k
  have ccK := bkf2 K4.out
  have ccA := bkf2 A4.out
  go_wp2
  clear cc0 ccK ccA
  obtain ⟨gA, hgA⟩ : ∃ g, wt4.heap.size = g := ⟨_, rfl⟩
  obtain ⟨wa4, hwa4⟩ : ∃ W, wt4.alloc (.cells #[.int .i64 aN, .int .i64 aD] 23) = W := ⟨_, rfl⟩
  rw [hwa4] at R4 K4 A4 ⊢
  rw [hgA] at A4 ⊢
  clear hwa4 hgA
  have hBB : Below wa4.heap.size wa4 wa4 := Below.refl _ _
  have HC : Hid (∀ W, Below wa4.heap.size wa4 W → (W.cell? ⟨gK, 0, none⟩ = some (.int .i64 1) ∧ W.cell? ⟨gK, 1, none⟩ = some (.int .i64 1)) ∧ (W.cell? ⟨gA, 0, none⟩ = some (.int .i64 aN) ∧ W.cell? ⟨gA, 1, none⟩ = some (.int .i64 aD))) := fun W hb => ⟨bkf2 (K4.out.later hb), bkf2 (A4.out.later hb)⟩
  first | (go_region_held3 (fun w' : World => ((w'.cell? ⟨gK, 0, none⟩ = some (.int .i64 1) ∧ w'.cell? ⟨gK, 1, none⟩ = some (.int .i64 1)) ∧ (w'.cell? ⟨gA, 0, none⟩ = some (.int .i64 aN) ∧ w'.cell? ⟨gA, 1, none⟩ = some (.int .i64 aD))) ∧ Below wa4.heap.size wa4 w') ((refine (fun hI => ⟨HC.out _ hI, hI⟩) ?_; repeat (first | with_reducible assumption | (go_split_ands; with_reducible assumption) | with_reducible refine belowA ?_ _ | with_reducible refine Below.drew ?_))) (first | (go_at_call 23; ((with_reducible refine (CW.out _).mono ?_)); rintro e wx ⟨rfl, hbwx⟩; have hbwx' : Below wa4.heap.size wa4 wx := Below.trans (by first | assumption | (go_split_ands; assumption)) (hbwx.mono (Below.size (by first | assumption | (go_split_ands; assumption)))); clear hbwx) | (go_at_call 24; ((with_reducible refine (FA1.out _).mono ?_)); rintro e wy ⟨rfl, hbwy⟩; have hbwy' : Below wa4.heap.size wa4 wy := Below.trans (by first | assumption | (go_split_ands; assumption)) (hbwy.mono (Below.size (by first | assumption | (go_split_ands; assumption)))); clear hbwy) | (go_at_call 25; ((with_reducible refine (FA2.out _).mono ?_)); rintro e wz ⟨rfl, hbwz⟩; have hbwz' : Below wa4.heap.size wa4 wz := Below.trans (by first | assumption | (go_split_ands; assumption)) (hbwz.mono (Below.size (by first | assumption | (go_split_ands; assumption)))); clear hbwz))) | fail
  all_goals
    have R5 := Lib.hid (OneB.later hbwz' R4.out)
    have K5 := Lib.hid (K4.out.later hbwz')
    have A5 := Lib.hid (A4.out.later hbwz')
    clear hbwz' hbwy' hbwx' hBB HC CW R4 K4 A4
    have cc0 := bkf2 R5.out.k
    have ccK := bkf2 K5.out
    have ccA := bkf2 A5.out
    go_wp2_with fail
    clear cc0 ccK ccA
    refine (MR.out _).mono ?_
    rintro e w' ⟨rfl, hb⟩
    have R6 := Lib.hid (OneB.later hb R5.out)
    have K6 := Lib.hid (K5.out.later hb)
    have A6 := Lib.hid (A5.out.later hb)
    clear hb R5 K5 A5
    have cc0 := bkf2 R6.out.k
    have ccK := bkf2 K6.out
    have ccA := bkf2 A6.out
    go_wp2_with fail
    clear cc0 ccK ccA
    refine (WI.out _).mono ?_
    rintro e w' ⟨rfl, rfl⟩
    have cc0 := bkf2 R6.out.k
    have ccK := bkf2 K6.out
    have ccA := bkf2 A6.out
    go_wp2_with fail
    clear cc0 ccK ccA
    refine (TU.out _).mono ?_
    rintro e wt7 ⟨rfl, hb⟩
    have R7 := Lib.hid (OneB.alloc (OneB.later hb R6.out) (.cells #[.int .i64 uN, .int .i64 uD] 23))
    have K7 := Lib.hid ((K6.out.later hb).alloc (.cells #[.int .i64 uN, .int .i64 uD] 23))
    have A7 := Lib.hid ((A6.out.later hb).alloc (.cells #[.int .i64 uN, .int .i64 uD] 23))
    have U7 := Lib.hid (Bk.new wt7 23 #[.int .i64 uN, .int .i64 uD])
    clear hb R6 K6 A6
    have cc0 := bkf2 R7.out.k
    have ccK := bkf2 K7.out
    have ccA := bkf2 A7.out
    have ccU := bkf2 U7.out
    go_wp2_with fail
    clear cc0 ccK ccA ccU
    obtain ⟨gU, hgU⟩ : ∃ g, wt7.heap.size = g := ⟨_, rfl⟩
    obtain ⟨wa7, hwa7⟩ : ∃ W, wt7.alloc (.cells #[.int .i64 uN, .int .i64 uD] 23) = W := ⟨_, rfl⟩
    rw [hwa7] at R7 K7 A7 U7 ⊢
    rw [hgU] at U7 ⊢
    clear hwa7 hgU
    refine (FU1.out _).mono ?_
    rintro e w' ⟨rfl, hb⟩
    have R8 := Lib.hid (OneB.later hb R7.out)
    have K8 := Lib.hid (K7.out.later hb)
    have A8 := Lib.hid (A7.out.later hb)
    have U8 := Lib.hid (U7.out.later hb)
    clear hb R7 K7 A7 U7
    have cc0 := bkf2 R8.out.k
    have ccK := bkf2 K8.out
    have ccA := bkf2 A8.out
    have ccU := bkf2 U8.out
    go_wp2_with fail
    clear cc0 ccK ccA ccU
    refine (FU2.out _).mono ?_
    rintro e w' ⟨rfl, hb⟩
    have R9 := Lib.hid (OneB.later hb R8.out)
    have K9 := Lib.hid (K8.out.later hb)
    have A9 := Lib.hid (A8.out.later hb)
    have U9 := Lib.hid (U8.out.later hb)
    clear hb R8 K8 A8 U8
    have cc0 := bkf2 R9.out.k
    have ccK := bkf2 K9.out
    have ccA := bkf2 A9.out
    have ccU := bkf2 U9.out
    go_wp2_with fail
    clear cc0 ccK ccA ccU
    refine (CU.out _).mono ?_
    rintro e w' ⟨rfl, hb⟩
    have R10 := Lib.hid (OneB.later hb R9.out)
    have K10 := Lib.hid (K9.out.later hb)
    have A10 := Lib.hid (A9.out.later hb)
    have U10 := Lib.hid (U9.out.later hb)
    clear hb R9 K9 A9 U9
    have cc0 := bkf2 R10.out.k
    have ccK := bkf2 K10.out
    have ccA := bkf2 A10.out
    have ccU := bkf2 U10.out
    go_wp2
    go_ret
    exact ⟨rfl, R10.out.b⟩

end Go.Proofs.Ytlpkjkjgmenhkaa

namespace Go.Proofs.Ytlpkjkjgmenhkaa
open Go.RowKit

open Go.Shelf
attribute [local go_sem] undef

set_option maxRecDepth 100000 in
set_option maxHeartbeats 8000000 in
theorem chances_zv (t r : Nat) (n d : Int) (w : World) (aN aD : Int) (uN uD cu : Int) (V V1 : Nat) (xN xD cx : Int)
    (hr : r = 0)
    (C3 : Hid (∀ w, Calls Try.prog 18 #[.int .i64 t, .int .i64 r] w fun e w' => e = .returned (.int .i64 0) ∧ w = w'))
    (D2 : Hid (∀ w, Calls Try.prog 21 #[.agg #[.int .i64 n, .int .i64 d]] w fun e w' => e = .returned (.int .i64 0) ∧ Below w.heap.size w w'))
    (T0 : Hid (∀ w, Calls Try.prog 16 #[.int .i64 t, .int .i64 0] w fun e w' => e = .returned (.tuple #[.agg #[.int .i64 1, .int .i64 1], .int .i64 0]) ∧ Below w.heap.size w w'))
    (TA : Hid (∀ w, Calls Try.prog 16 #[.int .i64 t, .int .i64 r] w fun e w' => e = .returned (.tuple #[.agg #[.int .i64 aN, .int .i64 aD], .int .i64 0]) ∧ Below w.heap.size w w'))
    (FA : Hid (FracOk aN aD))
    (MR : Hid (∀ w, Calls Try.prog 17 #[.int .i64 t, .agg #[.int .i64 n, .int .i64 d]] w fun e w' => e = .returned (.tuple #[.int .i64 V, .int .i64 0]) ∧ Below w.heap.size w w'))
    (WI : Hid (∀ w, Calls Try.prog 28 #[.int .i64 V, .int .i64 0, .int .i64 t] w fun e w' => e = .returned (.bool true) ∧ w = w'))
    (TU : Hid (∀ w, Calls Try.prog 16 #[.int .i64 t, .int .i64 V] w fun e w' => e = .returned (.tuple #[.agg #[.int .i64 uN, .int .i64 uD], .int .i64 0]) ∧ Below w.heap.size w w'))
    (FU : Hid (FracOk uN uD))
    (CU : Hid (∀ w, Calls Try.prog 27 #[.agg #[.int .i64 uN, .int .i64 uD], .agg #[.int .i64 n, .int .i64 d]] w fun e w' => e = .returned (.int .i64 cu) ∧ Below w.heap.size w w'))
    (hcu : ¬ 0 < cu)
    (hV : 0 < V) (hw4 : IntKind.i64.wrap ((V : Int) - 1) = (V1 : Int))
    (TX : Hid (∀ w, Calls Try.prog 16 #[.int .i64 t, .int .i64 V1] w fun e w' => e = .returned (.tuple #[.agg #[.int .i64 xN, .int .i64 xD], .int .i64 0]) ∧ Below w.heap.size w w'))
    (FX : Hid (FracOk xN xD))
    (CX : Hid (∀ w, Calls Try.prog 27 #[.agg #[.int .i64 xN, .int .i64 xD], .agg #[.int .i64 n, .int .i64 d]] w fun e w' => e = .returned (.int .i64 cx) ∧ Below w.heap.size w w'))
    (hcx : 0 < cx) :
    Calls Try.prog 4 #[.int .i64 t, .int .i64 r, .agg #[.int .i64 n, .int .i64 d]] w fun e w' => e = .returned (.bool true) ∧ Below w.heap.size w w' := by
  subst hr
  have hVI : ((V : Int) == 0) = false := by rw [beq_eq_false_iff_ne]; omega
  have hVJ : ¬ (V : Int) = 0 := by omega
  obtain ⟨FA1, FA2⟩ := FA.out
  replace FA1 := Lib.hid FA1
  replace FA2 := Lib.hid FA2
  obtain ⟨FU1, FU2⟩ := FU.out
  replace FU1 := Lib.hid FU1
  replace FU2 := Lib.hid FU2
  obtain ⟨FX1, FX2⟩ := FX.out
  replace FX1 := Lib.hid FX1
  replace FX2 := Lib.hid FX2
  have CW := Lib.hid (fun w => bWhole_any 1 w)
  have R0 := Lib.hid (OneB.start w 23 #[.int .i64 n, .int .i64 d])
  go_enter Try.func4, Try.ntmps4
  have cc0 := bkf2 R0.out.k
  go_wp2_with fail
  clear cc0 
  refine (awake_any _).mono ?_
  rintro e w' ⟨rfl, hb⟩
  have R1 := Lib.hid (OneB.later hb R0.out)
  clear hb R0 
  have cc0 := bkf2 R1.out.k
  go_wp2_with fail
  clear cc0 
  refine (C3.out _).mono ?_
  rintro e w' ⟨rfl, rfl⟩
  have cc0 := bkf2 R1.out.k
  go_wp2_with fail
  clear cc0 
  refine (D2.out _).mono ?_
  rintro e w' ⟨rfl, hb⟩
  have R2 := Lib.hid (OneB.later hb R1.out)
  clear hb R1 
  have cc0 := bkf2 R2.out.k
  go_wp2_with fail
  clear cc0 
  refine (T0.out _).mono ?_
  rintro e wt3 ⟨rfl, hb⟩
  have R3 := Lib.hid (OneB.alloc (OneB.later hb R2.out) (.cells #[.int .i64 1, .int .i64 1] 23))
  have K3 := Lib.hid (Bk.new wt3 23 #[.int .i64 1, .int .i64 1])
  clear hb R2 
  have cc0 := bkf2 R3.out.k
  have ccK := bkf2 K3.out
  go_wp2_with fail
  clear cc0 ccK
  obtain ⟨gK, hgK⟩ : ∃ g, wt3.heap.size = g := ⟨_, rfl⟩
  obtain ⟨wa3, hwa3⟩ : ∃ W, wt3.alloc (.cells #[.int .i64 1, .int .i64 1] 23) = W := ⟨_, rfl⟩
  rw [hwa3] at R3 K3 ⊢
  rw [hgK] at K3 ⊢
  clear hwa3 hgK
  refine (TA.out _).mono ?_
  rintro e wt4 ⟨rfl, hb⟩
  have R4 := Lib.hid (OneB.alloc (OneB.later hb R3.out) (.cells #[.int .i64 aN, .int .i64 aD] 23))
  have K4 := Lib.hid ((K3.out.later hb).alloc (.cells #[.int .i64 aN, .int .i64 aD] 23))
  have A4 := Lib.hid (Bk.new wt4 23 #[.int .i64 aN, .int .i64 aD])
  clear hb R3 K3
  have cc0 := bkf2 R4.out.k
  have ccK := bkf2 K4.out
  have ccA := bkf2 A4.out
  go_wp2
  clear cc0 ccK ccA
  obtain ⟨gA, hgA⟩ : ∃ g, wt4.heap.size = g := ⟨_, rfl⟩
  obtain ⟨wa4, hwa4⟩ : ∃ W, wt4.alloc (.cells #[.int .i64 aN, .int .i64 aD] 23) = W := ⟨_, rfl⟩
  rw [hwa4] at R4 K4 A4 ⊢
  rw [hgA] at A4 ⊢
  clear hwa4 hgA
  have hBB : Below wa4.heap.size wa4 wa4 := Below.refl _ _
  have HC : Hid (∀ W, Below wa4.heap.size wa4 W → (W.cell? ⟨gK, 0, none⟩ = some (.int .i64 1) ∧ W.cell? ⟨gK, 1, none⟩ = some (.int .i64 1)) ∧ (W.cell? ⟨gA, 0, none⟩ = some (.int .i64 aN) ∧ W.cell? ⟨gA, 1, none⟩ = some (.int .i64 aD))) := fun W hb => ⟨bkf2 (K4.out.later hb), bkf2 (A4.out.later hb)⟩
  first | (go_region_held3 (fun w' : World => ((w'.cell? ⟨gK, 0, none⟩ = some (.int .i64 1) ∧ w'.cell? ⟨gK, 1, none⟩ = some (.int .i64 1)) ∧ (w'.cell? ⟨gA, 0, none⟩ = some (.int .i64 aN) ∧ w'.cell? ⟨gA, 1, none⟩ = some (.int .i64 aD))) ∧ Below wa4.heap.size wa4 w') ((refine (fun hI => ⟨HC.out _ hI, hI⟩) ?_; repeat (first | with_reducible assumption | (go_split_ands; with_reducible assumption) | with_reducible refine belowA ?_ _ | with_reducible refine Below.drew ?_))) (first | (go_at_call 23; ((with_reducible refine (CW.out _).mono ?_)); rintro e wx ⟨rfl, hbwx⟩; have hbwx' : Below wa4.heap.size wa4 wx := Below.trans (by first | assumption | (go_split_ands; assumption)) (hbwx.mono (Below.size (by first | assumption | (go_split_ands; assumption)))); clear hbwx) | (go_at_call 24; ((with_reducible refine (FA1.out _).mono ?_)); rintro e wy ⟨rfl, hbwy⟩; have hbwy' : Below wa4.heap.size wa4 wy := Below.trans (by first | assumption | (go_split_ands; assumption)) (hbwy.mono (Below.size (by first | assumption | (go_split_ands; assumption)))); clear hbwy) | (go_at_call 25; ((with_reducible refine (FA2.out _).mono ?_)); rintro e wz ⟨rfl, hbwz⟩; have hbwz' : Below wa4.heap.size wa4 wz := Below.trans (by first | assumption | (go_split_ands; assumption)) (hbwz.mono (Below.size (by first | assumption | (go_split_ands; assumption)))); clear hbwz))) | fail
  all_goals
    have R5 := Lib.hid (OneB.later hbwz' R4.out)
    have K5 := Lib.hid (K4.out.later hbwz')
    have A5 := Lib.hid (A4.out.later hbwz')
    clear hbwz' hbwy' hbwx' hBB HC CW R4 K4 A4
    have cc0 := bkf2 R5.out.k
    have ccK := bkf2 K5.out
    have ccA := bkf2 A5.out
    go_wp2_with fail
    clear cc0 ccK ccA
    refine (MR.out _).mono ?_
    rintro e w' ⟨rfl, hb⟩
    have R6 := Lib.hid (OneB.later hb R5.out)
    have K6 := Lib.hid (K5.out.later hb)
    have A6 := Lib.hid (A5.out.later hb)
    clear hb R5 K5 A5
    have cc0 := bkf2 R6.out.k
    have ccK := bkf2 K6.out
    have ccA := bkf2 A6.out
    go_wp2_with fail
    clear cc0 ccK ccA
    refine (WI.out _).mono ?_
    rintro e w' ⟨rfl, rfl⟩
    have cc0 := bkf2 R6.out.k
    have ccK := bkf2 K6.out
    have ccA := bkf2 A6.out
    go_wp2_with fail
    clear cc0 ccK ccA
    refine (TU.out _).mono ?_
    rintro e wt7 ⟨rfl, hb⟩
    have R7 := Lib.hid (OneB.alloc (OneB.later hb R6.out) (.cells #[.int .i64 uN, .int .i64 uD] 23))
    have K7 := Lib.hid ((K6.out.later hb).alloc (.cells #[.int .i64 uN, .int .i64 uD] 23))
    have A7 := Lib.hid ((A6.out.later hb).alloc (.cells #[.int .i64 uN, .int .i64 uD] 23))
    have U7 := Lib.hid (Bk.new wt7 23 #[.int .i64 uN, .int .i64 uD])
    clear hb R6 K6 A6
    have cc0 := bkf2 R7.out.k
    have ccK := bkf2 K7.out
    have ccA := bkf2 A7.out
    have ccU := bkf2 U7.out
    go_wp2_with fail
    clear cc0 ccK ccA ccU
    obtain ⟨gU, hgU⟩ : ∃ g, wt7.heap.size = g := ⟨_, rfl⟩
    obtain ⟨wa7, hwa7⟩ : ∃ W, wt7.alloc (.cells #[.int .i64 uN, .int .i64 uD] 23) = W := ⟨_, rfl⟩
    rw [hwa7] at R7 K7 A7 U7 ⊢
    rw [hgU] at U7 ⊢
    clear hwa7 hgU
    refine (FU1.out _).mono ?_
    rintro e w' ⟨rfl, hb⟩
    have R8 := Lib.hid (OneB.later hb R7.out)
    have K8 := Lib.hid (K7.out.later hb)
    have A8 := Lib.hid (A7.out.later hb)
    have U8 := Lib.hid (U7.out.later hb)
    clear hb R7 K7 A7 U7
    have cc0 := bkf2 R8.out.k
    have ccK := bkf2 K8.out
    have ccA := bkf2 A8.out
    have ccU := bkf2 U8.out
    go_wp2_with fail
    clear cc0 ccK ccA ccU
    refine (FU2.out _).mono ?_
    rintro e w' ⟨rfl, hb⟩
    have R9 := Lib.hid (OneB.later hb R8.out)
    have K9 := Lib.hid (K8.out.later hb)
    have A9 := Lib.hid (A8.out.later hb)
    have U9 := Lib.hid (U8.out.later hb)
    clear hb R8 K8 A8 U8
    have cc0 := bkf2 R9.out.k
    have ccK := bkf2 K9.out
    have ccA := bkf2 A9.out
    have ccU := bkf2 U9.out
    go_wp2_with fail
    clear cc0 ccK ccA ccU
    refine (CU.out _).mono ?_
    rintro e w' ⟨rfl, hb⟩
    have R10 := Lib.hid (OneB.later hb R9.out)
    have K10 := Lib.hid (K9.out.later hb)
    have A10 := Lib.hid (A9.out.later hb)
    have U10 := Lib.hid (U9.out.later hb)
    clear hb R9 K9 A9 U9
    have cc0 := bkf2 R10.out.k
    have ccK := bkf2 K10.out
    have ccA := bkf2 A10.out
    have ccU := bkf2 U10.out
    go_wp2_with fail
    clear cc0 ccK ccA ccU
    refine (TX.out _).mono ?_
    rintro e wt11 ⟨rfl, hb⟩
    have R11 := Lib.hid (OneB.alloc (OneB.later hb R10.out) (.cells #[.int .i64 xN, .int .i64 xD] 23))
    have K11 := Lib.hid ((K10.out.later hb).alloc (.cells #[.int .i64 xN, .int .i64 xD] 23))
    have A11 := Lib.hid ((A10.out.later hb).alloc (.cells #[.int .i64 xN, .int .i64 xD] 23))
    have U11 := Lib.hid ((U10.out.later hb).alloc (.cells #[.int .i64 xN, .int .i64 xD] 23))
    have X11 := Lib.hid (Bk.new wt11 23 #[.int .i64 xN, .int .i64 xD])
    clear hb R10 K10 A10 U10
    have cc0 := bkf2 R11.out.k
    have ccK := bkf2 K11.out
    have ccA := bkf2 A11.out
    have ccU := bkf2 U11.out
    have ccX := bkf2 X11.out
    go_wp2_with fail
    clear cc0 ccK ccA ccU ccX
    obtain ⟨gX, hgX⟩ : ∃ g, wt11.heap.size = g := ⟨_, rfl⟩
    obtain ⟨wa11, hwa11⟩ : ∃ W, wt11.alloc (.cells #[.int .i64 xN, .int .i64 xD] 23) = W := ⟨_, rfl⟩
    rw [hwa11] at R11 K11 A11 U11 X11 ⊢
    rw [hgX] at X11 ⊢
    clear hwa11 hgX
    refine (FX1.out _).mono ?_
    rintro e w' ⟨rfl, hb⟩
    have R12 := Lib.hid (OneB.later hb R11.out)
    have K12 := Lib.hid (K11.out.later hb)
    have A12 := Lib.hid (A11.out.later hb)
    have U12 := Lib.hid (U11.out.later hb)
    have X12 := Lib.hid (X11.out.later hb)
    clear hb R11 K11 A11 U11 X11
    have cc0 := bkf2 R12.out.k
    have ccK := bkf2 K12.out
    have ccA := bkf2 A12.out
    have ccU := bkf2 U12.out
    have ccX := bkf2 X12.out
    go_wp2_with fail
    clear cc0 ccK ccA ccU ccX
    refine (FX2.out _).mono ?_
    rintro e w' ⟨rfl, hb⟩
    have R13 := Lib.hid (OneB.later hb R12.out)
    have K13 := Lib.hid (K12.out.later hb)
    have A13 := Lib.hid (A12.out.later hb)
    have U13 := Lib.hid (U12.out.later hb)
    have X13 := Lib.hid (X12.out.later hb)
    clear hb R12 K12 A12 U12 X12
    have cc0 := bkf2 R13.out.k
    have ccK := bkf2 K13.out
    have ccA := bkf2 A13.out
    have ccU := bkf2 U13.out
    have ccX := bkf2 X13.out
    go_wp2_with fail
    clear cc0 ccK ccA ccU ccX
    refine (CX.out _).mono ?_
    rintro e w' ⟨rfl, hb⟩
    have R14 := Lib.hid (OneB.later hb R13.out)
    have K14 := Lib.hid (K13.out.later hb)
    have A14 := Lib.hid (A13.out.later hb)
    have U14 := Lib.hid (U13.out.later hb)
    have X14 := Lib.hid (X13.out.later hb)
    clear hb R13 K13 A13 U13 X13
    have cc0 := bkf2 R14.out.k
    have ccK := bkf2 K14.out
    have ccA := bkf2 A14.out
    have ccU := bkf2 U14.out
    have ccX := bkf2 X14.out
    go_wp2
    go_ret
    exact ⟨rfl, R14.out.b⟩

end Go.Proofs.Ytlpkjkjgmenhkaa

namespace Go.Proofs.Ytlpkjkjgmenhkaa
open Go.RowKit

open Go.Shelf
attribute [local go_sem] undef

set_option maxRecDepth 100000 in
set_option maxHeartbeats 8000000 in
theorem chances_pn (t r : Nat) (n d : Int) (w : World) (aN aD : Int) (s q : Nat) (bN bD cN cD X1 X2 X3 Y cv : Int) (uN uD cu : Int)
    (hr : 0 < r)
    (C3 : Hid (∀ w, Calls Try.prog 18 #[.int .i64 t, .int .i64 r] w fun e w' => e = .returned (.int .i64 0) ∧ w = w'))
    (D2 : Hid (∀ w, Calls Try.prog 21 #[.agg #[.int .i64 n, .int .i64 d]] w fun e w' => e = .returned (.int .i64 0) ∧ Below w.heap.size w w'))
    (T0 : Hid (∀ w, Calls Try.prog 16 #[.int .i64 t, .int .i64 0] w fun e w' => e = .returned (.tuple #[.agg #[.int .i64 1, .int .i64 1], .int .i64 0]) ∧ Below w.heap.size w w'))
    (TA : Hid (∀ w, Calls Try.prog 16 #[.int .i64 t, .int .i64 r] w fun e w' => e = .returned (.tuple #[.agg #[.int .i64 aN, .int .i64 aD], .int .i64 0]) ∧ Below w.heap.size w w'))
    (FA : Hid (FracOk aN aD))
    (MR : Hid (∀ w, Calls Try.prog 17 #[.int .i64 t, .agg #[.int .i64 n, .int .i64 d]] w fun e w' => e = .returned (.tuple #[.int .i64 0, .int .i64 12]) ∧ Below w.heap.size w w'))
    (TB : Hid (∀ w, Calls Try.prog 16 #[.int .i64 t, .int .i64 s] w fun e w' => e = .returned (.tuple #[.agg #[.int .i64 bN, .int .i64 bD], .int .i64 0]) ∧ Below w.heap.size w w'))
    (TC : Hid (∀ w, Calls Try.prog 16 #[.int .i64 t, .int .i64 q] w fun e w' => e = .returned (.tuple #[.agg #[.int .i64 cN, .int .i64 cD], .int .i64 0]) ∧ Below w.heap.size w w'))
    (FB : Hid (FracOk bN bD))
    (FC : Hid (FracOk cN cD))
    (hw1 : IntKind.i64.wrap ((t : Int) + 1) = (t : Int) + 1) (hw2 : IntKind.i64.wrap ((t : Int) + 1 - (r : Int)) = (s : Int)) (hw3 : IntKind.i64.wrap ((r : Int) - 1) = (q : Int))
    (hm1 : IntKind.i64.wrap (aN * bD) = X1) (hm2 : IntKind.i64.wrap (bN * aD) = X2) (hm3 : IntKind.i64.wrap (X1 + X2) = X3) (hm4 : IntKind.i64.wrap (aD * bD) = Y) (hcv : ¬ cv < 0)
    (CL : Hid (∀ w, Calls Try.prog 26 #[.int .i64 X3, .int .i64 Y] w fun e w' => e = .returned (.agg #[.int .i64 1, .int .i64 1]) ∧ Below w.heap.size w w'))
    (CC : Hid (∀ w, Calls Try.prog 27 #[.agg #[.int .i64 cN, .int .i64 cD], .agg #[.int .i64 aN, .int .i64 aD]] w fun e w' => e = .returned (.int .i64 cv) ∧ Below w.heap.size w w'))
    (TU : Hid (∀ w, Calls Try.prog 16 #[.int .i64 t, .int .i64 t] w fun e w' => e = .returned (.tuple #[.agg #[.int .i64 uN, .int .i64 uD], .int .i64 0]) ∧ Below w.heap.size w w'))
    (FU : Hid (FracOk uN uD))
    (CU : Hid (∀ w, Calls Try.prog 27 #[.agg #[.int .i64 uN, .int .i64 uD], .agg #[.int .i64 n, .int .i64 d]] w fun e w' => e = .returned (.int .i64 cu) ∧ Below w.heap.size w w'))
    (hcu : 0 < cu) :
    Calls Try.prog 4 #[.int .i64 t, .int .i64 r, .agg #[.int .i64 n, .int .i64 d]] w fun e w' => e = .returned (.bool true) ∧ Below w.heap.size w w' := by
  have hrI : (0 : Int) < (r : Int) := by omega
  obtain ⟨FA1, FA2⟩ := FA.out
  replace FA1 := Lib.hid FA1
  replace FA2 := Lib.hid FA2
  obtain ⟨FB1, FB2⟩ := FB.out
  replace FB1 := Lib.hid FB1
  replace FB2 := Lib.hid FB2
  obtain ⟨FC1, FC2⟩ := FC.out
  replace FC1 := Lib.hid FC1
  replace FC2 := Lib.hid FC2
  obtain ⟨FU1, FU2⟩ := FU.out
  replace FU1 := Lib.hid FU1
  replace FU2 := Lib.hid FU2
  have CW := Lib.hid (fun w => bWhole_any 1 w)
  have R0 := Lib.hid (OneB.start w 23 #[.int .i64 n, .int .i64 d])
  go_enter Try.func4, Try.ntmps4
  have cc0 := bkf2 R0.out.k
  go_wp2_with fail
  clear cc0 
  refine (awake_any _).mono ?_
  rintro e w' ⟨rfl, hb⟩
  have R1 := Lib.hid (OneB.later hb R0.out)
  clear hb R0 
  have cc0 := bkf2 R1.out.k
  go_wp2_with fail
  clear cc0 
  refine (C3.out _).mono ?_
  rintro e w' ⟨rfl, rfl⟩
  have cc0 := bkf2 R1.out.k
  go_wp2_with fail
  clear cc0 
  refine (D2.out _).mono ?_
  rintro e w' ⟨rfl, hb⟩
  have R2 := Lib.hid (OneB.later hb R1.out)
  clear hb R1 
  have cc0 := bkf2 R2.out.k
  go_wp2_with fail
  clear cc0 
  refine (T0.out _).mono ?_
  rintro e wt3 ⟨rfl, hb⟩
  have R3 := Lib.hid (OneB.alloc (OneB.later hb R2.out) (.cells #[.int .i64 1, .int .i64 1] 23))
  have K3 := Lib.hid (Bk.new wt3 23 #[.int .i64 1, .int .i64 1])
  clear hb R2 
  have cc0 := bkf2 R3.out.k
  have ccK := bkf2 K3.out
  go_wp2_with fail
  clear cc0 ccK
  obtain ⟨gK, hgK⟩ : ∃ g, wt3.heap.size = g := ⟨_, rfl⟩
  obtain ⟨wa3, hwa3⟩ : ∃ W, wt3.alloc (.cells #[.int .i64 1, .int .i64 1] 23) = W := ⟨_, rfl⟩
  rw [hwa3] at R3 K3 ⊢
  rw [hgK] at K3 ⊢
  clear hwa3 hgK
  refine (TA.out _).mono ?_
  rintro e wt4 ⟨rfl, hb⟩
  have R4 := Lib.hid (OneB.alloc (OneB.later hb R3.out) (.cells #[.int .i64 aN, .int .i64 aD] 23))
  have K4 := Lib.hid ((K3.out.later hb).alloc (.cells #[.int .i64 aN, .int .i64 aD] 23))
  have A4 := Lib.hid (Bk.new wt4 23 #[.int .i64 aN, .int .i64 aD])
  clear hb R3 K3
  have cc0 := bkf2 R4.out.k
  have ccK := bkf2 K4.out
  have ccA := bkf2 A4.out
  go_wp2
  clear cc0 ccK ccA
  obtain ⟨gA, hgA⟩ : ∃ g, wt4.heap.size = g := ⟨_, rfl⟩
  obtain ⟨wa4, hwa4⟩ : ∃ W, wt4.alloc (.cells #[.int .i64 aN, .int .i64 aD] 23) = W := ⟨_, rfl⟩
  rw [hwa4] at R4 K4 A4 ⊢
  rw [hgA] at A4 ⊢
  clear hwa4 hgA
  have hBB : Below wa4.heap.size wa4 wa4 := Below.refl _ _
  have HC : Hid (∀ W, Below wa4.heap.size wa4 W → (W.cell? ⟨gK, 0, none⟩ = some (.int .i64 1) ∧ W.cell? ⟨gK, 1, none⟩ = some (.int .i64 1)) ∧ (W.cell? ⟨gA, 0, none⟩ = some (.int .i64 aN) ∧ W.cell? ⟨gA, 1, none⟩ = some (.int .i64 aD))) := fun W hb => ⟨bkf2 (K4.out.later hb), bkf2 (A4.out.later hb)⟩
  first | (go_region_held3 (fun w' : World => ((w'.cell? ⟨gK, 0, none⟩ = some (.int .i64 1) ∧ w'.cell? ⟨gK, 1, none⟩ = some (.int .i64 1)) ∧ (w'.cell? ⟨gA, 0, none⟩ = some (.int .i64 aN) ∧ w'.cell? ⟨gA, 1, none⟩ = some (.int .i64 aD))) ∧ Below wa4.heap.size wa4 w') ((refine (fun hI => ⟨HC.out _ hI, hI⟩) ?_; repeat (first | with_reducible assumption | (go_split_ands; with_reducible assumption) | with_reducible refine belowA ?_ _ | with_reducible refine Below.drew ?_))) (first | (go_at_call 23; ((with_reducible refine (CW.out _).mono ?_)); rintro e wx ⟨rfl, hbwx⟩; have hbwx' : Below wa4.heap.size wa4 wx := Below.trans (by first | assumption | (go_split_ands; assumption)) (hbwx.mono (Below.size (by first | assumption | (go_split_ands; assumption)))); clear hbwx) | (go_at_call 24; ((with_reducible refine (FA1.out _).mono ?_)); rintro e wy ⟨rfl, hbwy⟩; have hbwy' : Below wa4.heap.size wa4 wy := Below.trans (by first | assumption | (go_split_ands; assumption)) (hbwy.mono (Below.size (by first | assumption | (go_split_ands; assumption)))); clear hbwy) | (go_at_call 25; ((with_reducible refine (FA2.out _).mono ?_)); rintro e wz ⟨rfl, hbwz⟩; have hbwz' : Below wa4.heap.size wa4 wz := Below.trans (by first | assumption | (go_split_ands; assumption)) (hbwz.mono (Below.size (by first | assumption | (go_split_ands; assumption)))); clear hbwz))) | fail
  all_goals
    have R5 := Lib.hid (OneB.later hbwz' R4.out)
    have K5 := Lib.hid (K4.out.later hbwz')
    have A5 := Lib.hid (A4.out.later hbwz')
    clear hbwz' hbwy' hbwx' hBB HC R4 K4 A4
    have cc0 := bkf2 R5.out.k
    have ccK := bkf2 K5.out
    have ccA := bkf2 A5.out
    go_wp2_with fail
    clear cc0 ccK ccA
    refine (TB.out _).mono ?_
    rintro e wt6 ⟨rfl, hb⟩
    have R6 := Lib.hid (OneB.alloc (OneB.later hb R5.out) (.cells #[.int .i64 bN, .int .i64 bD] 23))
    have K6 := Lib.hid ((K5.out.later hb).alloc (.cells #[.int .i64 bN, .int .i64 bD] 23))
    have A6 := Lib.hid ((A5.out.later hb).alloc (.cells #[.int .i64 bN, .int .i64 bD] 23))
    have B6 := Lib.hid (Bk.new wt6 23 #[.int .i64 bN, .int .i64 bD])
    clear hb R5 K5 A5
    have cc0 := bkf2 R6.out.k
    have ccK := bkf2 K6.out
    have ccA := bkf2 A6.out
    have ccB := bkf2 B6.out
    go_wp2_with fail
    clear cc0 ccK ccA ccB
    obtain ⟨gB, hgB⟩ : ∃ g, wt6.heap.size = g := ⟨_, rfl⟩
    obtain ⟨wa6, hwa6⟩ : ∃ W, wt6.alloc (.cells #[.int .i64 bN, .int .i64 bD] 23) = W := ⟨_, rfl⟩
    rw [hwa6] at R6 K6 A6 B6 ⊢
    rw [hgB] at B6 ⊢
    clear hwa6 hgB
    refine (TC.out _).mono ?_
    rintro e wt7 ⟨rfl, hb⟩
    have R7 := Lib.hid (OneB.alloc (OneB.later hb R6.out) (.cells #[.int .i64 cN, .int .i64 cD] 23))
    have K7 := Lib.hid ((K6.out.later hb).alloc (.cells #[.int .i64 cN, .int .i64 cD] 23))
    have A7 := Lib.hid ((A6.out.later hb).alloc (.cells #[.int .i64 cN, .int .i64 cD] 23))
    have B7 := Lib.hid ((B6.out.later hb).alloc (.cells #[.int .i64 cN, .int .i64 cD] 23))
    have C7 := Lib.hid (Bk.new wt7 23 #[.int .i64 cN, .int .i64 cD])
    clear hb R6 K6 A6 B6
    have cc0 := bkf2 R7.out.k
    have ccK := bkf2 K7.out
    have ccA := bkf2 A7.out
    have ccB := bkf2 B7.out
    have ccC := bkf2 C7.out
    go_wp2_with fail
    clear cc0 ccK ccA ccB ccC
    obtain ⟨gC, hgC⟩ : ∃ g, wt7.heap.size = g := ⟨_, rfl⟩
    obtain ⟨wa7, hwa7⟩ : ∃ W, wt7.alloc (.cells #[.int .i64 cN, .int .i64 cD] 23) = W := ⟨_, rfl⟩
    rw [hwa7] at R7 K7 A7 B7 C7 ⊢
    rw [hgC] at C7 ⊢
    clear hwa7 hgC
    refine (FB1.out _).mono ?_
    rintro e w' ⟨rfl, hb⟩
    have R8 := Lib.hid (OneB.later hb R7.out)
    have K8 := Lib.hid (K7.out.later hb)
    have A8 := Lib.hid (A7.out.later hb)
    have B8 := Lib.hid (B7.out.later hb)
    have C8 := Lib.hid (C7.out.later hb)
    clear hb R7 K7 A7 B7 C7
    have cc0 := bkf2 R8.out.k
    have ccK := bkf2 K8.out
    have ccA := bkf2 A8.out
    have ccB := bkf2 B8.out
    have ccC := bkf2 C8.out
    go_wp2_with fail
    clear cc0 ccK ccA ccB ccC
    refine (FB2.out _).mono ?_
    rintro e w' ⟨rfl, hb⟩
    have R9 := Lib.hid (OneB.later hb R8.out)
    have K9 := Lib.hid (K8.out.later hb)
    have A9 := Lib.hid (A8.out.later hb)
    have B9 := Lib.hid (B8.out.later hb)
    have C9 := Lib.hid (C8.out.later hb)
    clear hb R8 K8 A8 B8 C8
    have cc0 := bkf2 R9.out.k
    have ccK := bkf2 K9.out
    have ccA := bkf2 A9.out
    have ccB := bkf2 B9.out
    have ccC := bkf2 C9.out
    go_wp2_with fail
    clear cc0 ccK ccA ccB ccC
    refine (FC1.out _).mono ?_
    rintro e w' ⟨rfl, hb⟩
    have R10 := Lib.hid (OneB.later hb R9.out)
    have K10 := Lib.hid (K9.out.later hb)
    have A10 := Lib.hid (A9.out.later hb)
    have B10 := Lib.hid (B9.out.later hb)
    have C10 := Lib.hid (C9.out.later hb)
    clear hb R9 K9 A9 B9 C9
    have cc0 := bkf2 R10.out.k
    have ccK := bkf2 K10.out
    have ccA := bkf2 A10.out
    have ccB := bkf2 B10.out
    have ccC := bkf2 C10.out
    go_wp2_with fail
    clear cc0 ccK ccA ccB ccC
    refine (FC2.out _).mono ?_
    rintro e w' ⟨rfl, hb⟩
    have R11 := Lib.hid (OneB.later hb R10.out)
    have K11 := Lib.hid (K10.out.later hb)
    have A11 := Lib.hid (A10.out.later hb)
    have B11 := Lib.hid (B10.out.later hb)
    have C11 := Lib.hid (C10.out.later hb)
    clear hb R10 K10 A10 B10 C10
    have cc0 := bkf2 R11.out.k
    have ccK := bkf2 K11.out
    have ccA := bkf2 A11.out
    have ccB := bkf2 B11.out
    have ccC := bkf2 C11.out
    go_wp2_with fail
    clear cc0 ccK ccA ccB ccC
    refine (CL.out _).mono ?_
    rintro e w' ⟨rfl, hb⟩
    have R12 := Lib.hid (OneB.later hb R11.out)
    have K12 := Lib.hid (K11.out.later hb)
    have A12 := Lib.hid (A11.out.later hb)
    have B12 := Lib.hid (B11.out.later hb)
    have C12 := Lib.hid (C11.out.later hb)
    clear hb R11 K11 A11 B11 C11
    have cc0 := bkf2 R12.out.k
    have ccK := bkf2 K12.out
    have ccA := bkf2 A12.out
    have ccB := bkf2 B12.out
    have ccC := bkf2 C12.out
    go_wp2_with fail
    clear cc0 ccK ccA ccB ccC
    refine (CW.out _).mono ?_
    rintro e w' ⟨rfl, hb⟩
    have R13 := Lib.hid (OneB.later hb R12.out)
    have K13 := Lib.hid (K12.out.later hb)
    have A13 := Lib.hid (A12.out.later hb)
    have B13 := Lib.hid (B12.out.later hb)
    have C13 := Lib.hid (C12.out.later hb)
    clear hb R12 K12 A12 B12 C12
    have cc0 := bkf2 R13.out.k
    have ccK := bkf2 K13.out
    have ccA := bkf2 A13.out
    have ccB := bkf2 B13.out
    have ccC := bkf2 C13.out
    go_wp2_with fail
    clear cc0 ccK ccA ccB ccC
    refine (CC.out _).mono ?_
    rintro e w' ⟨rfl, hb⟩
    have R14 := Lib.hid (OneB.later hb R13.out)
    have K14 := Lib.hid (K13.out.later hb)
    have A14 := Lib.hid (A13.out.later hb)
    have B14 := Lib.hid (B13.out.later hb)
    have C14 := Lib.hid (C13.out.later hb)
    clear hb R13 K13 A13 B13 C13
    have cc0 := bkf2 R14.out.k
    have ccK := bkf2 K14.out
    have ccA := bkf2 A14.out
    have ccB := bkf2 B14.out
    have ccC := bkf2 C14.out
    go_wp2_with fail
    clear cc0 ccK ccA ccB ccC
    refine (MR.out _).mono ?_
    rintro e w' ⟨rfl, hb⟩
    have R15 := Lib.hid (OneB.later hb R14.out)
    have K15 := Lib.hid (K14.out.later hb)
    have A15 := Lib.hid (A14.out.later hb)
    have B15 := Lib.hid (B14.out.later hb)
    have C15 := Lib.hid (C14.out.later hb)
    clear hb R14 K14 A14 B14 C14
    have cc0 := bkf2 R15.out.k
    have ccK := bkf2 K15.out
    have ccA := bkf2 A15.out
    have ccB := bkf2 B15.out
    have ccC := bkf2 C15.out
    go_wp2_with fail
    clear cc0 ccK ccA ccB ccC
    refine (TU.out _).mono ?_
    rintro e wt16 ⟨rfl, hb⟩
    have R16 := Lib.hid (OneB.alloc (OneB.later hb R15.out) (.cells #[.int .i64 uN, .int .i64 uD] 23))
    have K16 := Lib.hid ((K15.out.later hb).alloc (.cells #[.int .i64 uN, .int .i64 uD] 23))
    have A16 := Lib.hid ((A15.out.later hb).alloc (.cells #[.int .i64 uN, .int .i64 uD] 23))
    have B16 := Lib.hid ((B15.out.later hb).alloc (.cells #[.int .i64 uN, .int .i64 uD] 23))
    have C16 := Lib.hid ((C15.out.later hb).alloc (.cells #[.int .i64 uN, .int .i64 uD] 23))
    have U16 := Lib.hid (Bk.new wt16 23 #[.int .i64 uN, .int .i64 uD])
    clear hb R15 K15 A15 B15 C15
    have cc0 := bkf2 R16.out.k
    have ccK := bkf2 K16.out
    have ccA := bkf2 A16.out
    have ccB := bkf2 B16.out
    have ccC := bkf2 C16.out
    have ccU := bkf2 U16.out
    go_wp2_with fail
    clear cc0 ccK ccA ccB ccC ccU
    obtain ⟨gU, hgU⟩ : ∃ g, wt16.heap.size = g := ⟨_, rfl⟩
    obtain ⟨wa16, hwa16⟩ : ∃ W, wt16.alloc (.cells #[.int .i64 uN, .int .i64 uD] 23) = W := ⟨_, rfl⟩
    rw [hwa16] at R16 K16 A16 B16 C16 U16 ⊢
    rw [hgU] at U16 ⊢
    clear hwa16 hgU
    refine (FU1.out _).mono ?_
    rintro e w' ⟨rfl, hb⟩
    have R17 := Lib.hid (OneB.later hb R16.out)
    have K17 := Lib.hid (K16.out.later hb)
    have A17 := Lib.hid (A16.out.later hb)
    have B17 := Lib.hid (B16.out.later hb)
    have C17 := Lib.hid (C16.out.later hb)
    have U17 := Lib.hid (U16.out.later hb)
    clear hb R16 K16 A16 B16 C16 U16
    have cc0 := bkf2 R17.out.k
    have ccK := bkf2 K17.out
    have ccA := bkf2 A17.out
    have ccB := bkf2 B17.out
    have ccC := bkf2 C17.out
    have ccU := bkf2 U17.out
    go_wp2_with fail
    clear cc0 ccK ccA ccB ccC ccU
    refine (FU2.out _).mono ?_
    rintro e w' ⟨rfl, hb⟩
    have R18 := Lib.hid (OneB.later hb R17.out)
    have K18 := Lib.hid (K17.out.later hb)
    have A18 := Lib.hid (A17.out.later hb)
    have B18 := Lib.hid (B17.out.later hb)
    have C18 := Lib.hid (C17.out.later hb)
    have U18 := Lib.hid (U17.out.later hb)
    clear hb R17 K17 A17 B17 C17 U17
    have cc0 := bkf2 R18.out.k
    have ccK := bkf2 K18.out
    have ccA := bkf2 A18.out
    have ccB := bkf2 B18.out
    have ccC := bkf2 C18.out
    have ccU := bkf2 U18.out
    go_wp2_with fail
    clear cc0 ccK ccA ccB ccC ccU
    refine (CU.out _).mono ?_
    rintro e w' ⟨rfl, hb⟩
    have R19 := Lib.hid (OneB.later hb R18.out)
    have K19 := Lib.hid (K18.out.later hb)
    have A19 := Lib.hid (A18.out.later hb)
    have B19 := Lib.hid (B18.out.later hb)
    have C19 := Lib.hid (C18.out.later hb)
    have U19 := Lib.hid (U18.out.later hb)
    clear hb R18 K18 A18 B18 C18 U18
    have cc0 := bkf2 R19.out.k
    have ccK := bkf2 K19.out
    have ccA := bkf2 A19.out
    have ccB := bkf2 B19.out
    have ccC := bkf2 C19.out
    have ccU := bkf2 U19.out
    go_wp2
    go_ret
    exact ⟨rfl, R19.out.b⟩

end Go.Proofs.Ytlpkjkjgmenhkaa

