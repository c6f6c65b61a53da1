import Derived.Test.YtkemoffagdilgaaGreatDoorSB8
import Derived.Test.YtkemoffagdilgaaGreatDoorSB4
import Derived.Test.YtkemoffagdilgaaGreatDoorW22
namespace Go.Proofs.YtkemoffagdilgaaGreatDoor
open Go.RowKit

theorem parB_form (ps : List (List UInt8)) : ∃ f r, parB ps = (bRow f, r) ∧ ∀ i, -1000000 ≤ f i ∧ f i ≤ 1000000 := by
  unfold parB
  split
  · split
    · exact ⟨_, _, rfl, fun i => by have := valB_bd ps i; omega⟩
    · exact ⟨fun _ => 0, _, rfl, fun i => by show -1000000 ≤ (0 : Int) ∧ (0 : Int) ≤ 1000000; omega⟩
  · exact ⟨fun _ => 0, _, rfl, fun i => by show -1000000 ≤ (0 : Int) ∧ (0 : Int) ≤ 1000000; omega⟩
theorem neqR (f : Nat → Int) (h : ∀ i, -1000000 ≤ f i ∧ f i ≤ 1000000) (W : World) : (binOp .neq 24 (.agg (bRow f)) (.agg (bRow f))).run Tryz.prog W = .ok (.bool false) W :=
  neqB_self _ _ _ _ _ _ _ _ _ _ _ (wf_of _ (h 0)) (wf_of _ (h 1)) (wf_of _ (h 2)) (wf_of _ (h 3)) (wf_of _ (h 4)) (wf_of _ (h 5)) (wf_of _ (h 6)) (wf_of _ (h 7)) (wf_of _ (h 8)) (wf_of _ (h 9)) (wf_of _ (h 10)) W
theorem eqR (f : Nat → Int) (h : ∀ i, i < 11 → -1000000 < f i ∧ f i < 1000000) (W : World) : (binOp .eql 24 (.agg (bRow f)) (.agg (bRow f))).run Tryz.prog W = .ok (.bool true) W := by
  have hw : ∀ i, i < 11 → Wf (f i) := fun i hi => wf_of _ (by have := h i hi; omega)
  obtain ⟨la, hla⟩ : ∃ la, Tryz.prog.keyLits 10 24 (Value.agg (bkA (f 0) (f 1) (f 2) (f 3) (f 4) (f 5) (f 6) (f 7) (f 8) (f 9) (f 10))).cells.toList = some la := by
    rw [klBlk]
    simp only [List.mapM_cons, List.mapM_nil, klInt 8 _ (hw 0 (by omega)), klInt 8 _ (hw 1 (by omega)), klInt 8 _ (hw 10 (by omega)), klArr, klInt 7 _ (hw 2 (by omega)), klInt 7 _ (hw 3 (by omega)), klInt 7 _ (hw 4 (by omega)), klInt 7 _ (hw 5 (by omega)), klInt 7 _ (hw 6 (by omega)), klInt 7 _ (hw 7 (by omega)), klInt 7 _ (hw 8 (by omega)), klInt 7 _ (hw 9 (by omega))]
    exact ⟨_, rfl⟩
  have hf := blkFormed (f 0) (f 1) (f 2) (f 3) (f 4) (f 5) (f 6) (f 7) (f 8) (f 9) (f 10)
  obtain ⟨r, hr, hi⟩ := run_equalIn_deep 9990 10 24 blkKey W 10 10 _ _ _ _ hf hf hla hla
  show (binOp .eql 24 (.agg (bkA (f 0) (f 1) (f 2) (f 3) (f 4) (f 5) (f 6) (f 7) (f 8) (f 9) (f 10))) (.agg (bkA (f 0) (f 1) (f 2) (f 3) (f 4) (f 5) (f 6) (f 7) (f 8) (f 9) (f 10)))).run Tryz.prog W = _
  rw [run_eql_struct, hr, hi.2 rfl]
  rfl
theorem bRow_cells {W : World} {g : Nat} {f : Nat → Int} (h : Bk W g 24 (bRow f)) : ∀ j, j < 11 → W.cell? ⟨g, j, none⟩ = some (.int .i64 (f j)) := fun j hj => by rw [h.cell]; exact bRow_at f j hj

set_option maxRecDepth 100000 in
set_option maxHeartbeats 4000000 in
theorem bs_long (s : ByteArray) (f : Nat → Int) (w : World) (hl : LaidB w) (h : 120 < s.size) :
    Calls Tryz.prog 3 #[.agg (bRow f), .string s] w fun e w' => e = .returned (.bool true) ∧ Below w.heap.size w w' := by
  obtain ⟨w1, hw1⟩ : ∃ W, w.alloc (.cells (bRow f) 24) = W := ⟨_, rfl⟩
  have B1 : Hid (Below w.heap.size w w1) := by show Below _ _ _; rw [← hw1]; exact (Below.refl _ _).alloc (Nat.le_refl _) _
  have K1 : Hid (Bk w1 w.heap.size 24 (bRow f)) := by show Bk _ _ _ _; rw [← hw1]; exact Bk.new _ _ _
  have CA := Lib.hid (awake_any w1 (hl.later B1.out).pr)
  have HW1 := Lib.hid hw1
  have hc : (120 : Int) < (s.size : Int) := by omega
  clear hl h hw1
  all_goals
    go_enter Tryz.func3, Tryz.ntmps3
    go_wp2_with fail
    refine Calls.mono (w := w.alloc (.cells (bRow f) 24)) (by rw [HW1.out]; exact CA.out) ?_
    rintro e w2 ⟨rfl, hb2⟩
    have B2 := Lib.hid (B1.out.trans (hb2.mono B1.out.size))
    clear hb2
    go_wp2
    go_ret
    exact ⟨rfl, B2.out⟩

set_option maxRecDepth 100000 in
set_option maxHeartbeats 8000000 in
theorem bs_main (s : ByteArray) (f : Nat → Int) (w : World) (hl : LaidB w) (hsz : s.size ≤ 120) (hf : ∀ i, -9223372036854775808 ≤ f i ∧ f i ≤ 9223372036854775807)
    (hCG : ∀ W, Calls Tryz.prog 8 #[.agg (bRow f)] W fun e w' => e = .returned (.string (⟨(joinP (intsB f)).toArray⟩ : ByteArray)) ∧ Below W.heap.size W w') :
    Calls Tryz.prog 3 #[.agg (bRow f), .string s] w fun e w' => e = .returned (.bool true) ∧ Below w.heap.size w w' := by
  obtain ⟨w1, hw1⟩ : ∃ W, w.alloc (.cells (bRow f) 24) = W := ⟨_, rfl⟩
  have B1 : Hid (Below w.heap.size w w1) := by show Below _ _ _; rw [← hw1]; exact (Below.refl _ _).alloc (Nat.le_refl _) _
  have K1 : Hid (Bk w1 w.heap.size 24 (bRow f)) := by show Bk _ _ _ _; rw [← hw1]; exact Bk.new _ _ _
  have HL1 := Lib.hid (hl.later B1.out)
  have CA := Lib.hid (awake_any w1 HL1.out.pr)
  have HW1 := Lib.hid hw1
  obtain ⟨T, hT⟩ : ∃ T, (⟨(joinP (intsB f)).toArray⟩ : ByteArray) = T := ⟨_, rfl⟩
  obtain ⟨E, hE⟩ : ∃ E, errB f = E := ⟨_, rfl⟩
  have hTz : T.size ≤ 1000 := by
    rw [← hT, bytes_size]
    have := joinP_len (intsB f) (by
      intro y hy
      simp only [intsB, List.mem_cons, List.not_mem_nil, or_false] at hy
      rcases hy with rfl | rfl | rfl | rfl | rfl | rfl | rfl | rfl | rfl | rfl | rfl <;> exact hf _)
    have h3 : (intsB f).length = 11 := rfl
    omega
  have CF : Hid (∀ W, LaidB W → _) := Lib.hid fun W hW => formatB_any f W hW hf
  have CG := Lib.hid hCG
  obtain ⟨f2, r, hP, hf2⟩ := parB_form (pcs 32 s.data.toList)
  have HN2 := Lib.hid hf2
  have CP : Hid (∀ W, LaidB W → _) := Lib.hid fun W hW => codePB_any s W hW (by omega)
  have CQ : Hid (∀ W, _) := Lib.hid fun W => refPB_any s W (by omega)
  have CE : Hid (∀ W, Calls Tryz.prog 9 #[.agg (bRow f)] W fun e w' => e = .returned (.int .i64 E) ∧ Below W.heap.size W w') := fun W => by
    have := refBlockErr_any (f 0) (f 1) (f 2) (f 3) (f 4) (f 5) (f 6) (f 7) (f 8) (f 9) (f 10) W
    rw [← hE]
    exact this
  have CB : Hid (E = 0 → ∀ W, LaidB W → Calls Tryz.prog 6 #[.string T] W fun e w' => e = .returned (.tuple #[.agg (bRow f), .int .i64 0]) ∧ Below W.heap.size W w') := fun hE0 W hW => by
    have := codePB_any T W hW hTz
    obtain ⟨b1, b2⟩ := errB_bd f (hE.trans hE0)
    rw [← hT, blockB_back f b1 b2 (hE.trans hE0)] at this
    rw [← hT]
    exact this
  rw [hT] at CF CG
  rw [hP] at CP CQ
  have hc : ¬ (120 : Int) < (s.size : Int) := by omega
  have HEQ : Hid (E = 0 → ∀ W, (binOp .eql 24 (.agg (bRow f)) (.agg (bRow f))).run Tryz.prog W = .ok (.bool true) W) := fun hE0 W => eqR f (errB_bd f (hE.trans hE0)).1 W
  clear hl hw1 hT hE hTz hP hf hCG hf2
  go_enter Tryz.func3, Tryz.ntmps3
  go_wp2_with fail
  refine Calls.mono (w := w.alloc (.cells (bRow f) 24)) (by rw [HW1.out]; exact CA.out) ?_
  rintro e w2 ⟨rfl, hb2⟩
  have K2 : Hid (Bk w2 w.heap.size 24 (bRow f)) := K1.out.below hb2 K1.out.lt
  have B2 := Lib.hid (B1.out.trans (hb2.mono B1.out.size))
  have HL2 := Lib.hid (HL1.out.later hb2)
  clear hb2 K1 B1 HL1 CA HW1
  go_wp2_with (with_reducible refine wpList_load_row rfl 24 (.tmp 2) rfl w.heap.size rfl 24 (bRow f) (0, 0) _ K2.out.heap Tryz.underlying24 rfl (blkInfR _) ?_)
  refine (CF.out _ HL2.out).mono ?_
  rintro e w3 ⟨rfl, hb3⟩
  have K3 : Hid (Bk w3 w.heap.size 24 (bRow f)) := K2.out.below hb3 K2.out.lt
  have B3 := Lib.hid (B2.out.trans (hb3.mono B2.out.size))
  have HL3 := Lib.hid (HL2.out.later hb3)
  clear hb3 K2 B2 HL2 hc
  go_wp2_with fail
  refine (CP.out _ HL3.out).mono ?_
  rintro e w4 ⟨rfl, hb4⟩
  have K5 := Lib.hid ((K3.out.below hb4 K3.out.lt).alloc (.cells (bRow f2) 24))
  have M5 := Lib.hid (Bk.new w4 24 (bRow f2))
  have B5 := Lib.hid ((B3.out.trans (hb4.mono B3.out.size)).alloc (by have := hb4.size; have := B3.out.size; omega) (.cells (bRow f2) 24))
  have HL5 := Lib.hid ((HL3.out.later hb4).alloc (.cells (bRow f2) 24))
  clear hb4 K3 B3 HL3
  go_wp2_with fail
  obtain ⟨w5, hw5⟩ : ∃ W, w4.alloc (.cells (bRow f2) 24) = W := ⟨_, rfl⟩
  refine Calls.mono (w := w4.alloc (.cells (bRow f2) 24)) (CQ.out _) ?_
  rw [hw5] at K5 M5 B5 HL5 ⊢
  clear hw5
  rintro e w6 ⟨rfl, hb6⟩
  have K7 := Lib.hid ((K5.out.below hb6 K5.out.lt).alloc (.cells (bRow f2) 24))
  have M7 := Lib.hid ((M5.out.below hb6 M5.out.lt).alloc (.cells (bRow f2) 24))
  have N7 := Lib.hid (Bk.new w6 24 (bRow f2))
  have B7 := Lib.hid ((B5.out.trans (hb6.mono B5.out.size)).alloc (by have := hb6.size; have := B5.out.size; omega) (.cells (bRow f2) 24))
  have HL7 := Lib.hid ((HL5.out.later hb6).alloc (.cells (bRow f2) 24))
  clear hb6 K5 M5 B5 HL5
  have HK7 : Hid (Bk (w6.alloc (.cells (bRow f2) 24)) w.heap.size 24 (bRow f)) := K7.out
  go_wp2_with (with_reducible refine wpList_load_row rfl 24 (.tmp 2) rfl w.heap.size rfl 24 (bRow f) (0, 0) _ HK7.out.heap Tryz.underlying24 rfl (blkInfR _) ?_)
  obtain ⟨w7, hw7⟩ : ∃ W, w6.alloc (.cells (bRow f2) 24) = W := ⟨_, rfl⟩
  refine Calls.mono (w := w6.alloc (.cells (bRow f2) 24)) (CG.out _) ?_
  clear HK7
  rw [hw7] at K7 M7 N7 B7 HL7 ⊢
  clear hw7
  rintro e w8 ⟨rfl, hb8⟩
  have K8 : Hid (Bk w8 w.heap.size 24 (bRow f)) := K7.out.below hb8 K7.out.lt
  have M8 : Hid (Bk w8 w4.heap.size 24 (bRow f2)) := M7.out.below hb8 M7.out.lt
  have N8 : Hid (Bk w8 w6.heap.size 24 (bRow f2)) := N7.out.below hb8 N7.out.lt
  have B8 := Lib.hid (B7.out.trans (hb8.mono B7.out.size))
  have HL8 := Lib.hid (HL7.out.later hb8)
  clear hb8 K7 M7 N7 B7 HL7
  have m0 := bRow_cells M8.out 0 (by omega)
  have m1 := bRow_cells M8.out 1 (by omega)
  have m2 := bRow_cells M8.out 2 (by omega)
  have m3 := bRow_cells M8.out 3 (by omega)
  have m4 := bRow_cells M8.out 4 (by omega)
  have m5 := bRow_cells M8.out 5 (by omega)
  have m6 := bRow_cells M8.out 6 (by omega)
  have m7 := bRow_cells M8.out 7 (by omega)
  have m8 := bRow_cells M8.out 8 (by omega)
  have m9 := bRow_cells M8.out 9 (by omega)
  have m10 := bRow_cells M8.out 10 (by omega)
  have q0 := bRow_cells N8.out 0 (by omega)
  have q1 := bRow_cells N8.out 1 (by omega)
  have q2 := bRow_cells N8.out 2 (by omega)
  have q3 := bRow_cells N8.out 3 (by omega)
  have q4 := bRow_cells N8.out 4 (by omega)
  have q5 := bRow_cells N8.out 5 (by omega)
  have q6 := bRow_cells N8.out 6 (by omega)
  have q7 := bRow_cells N8.out 7 (by omega)
  have q8 := bRow_cells N8.out 8 (by omega)
  have q9 := bRow_cells N8.out 9 (by omega)
  have q10 := bRow_cells N8.out 10 (by omega)
  have hneq : ∀ W, (binOp .neq 24 (.agg #[.int .i64 (f2 0), .int .i64 (f2 1), .int .i64 (f2 2), .int .i64 (f2 3), .int .i64 (f2 4), .int .i64 (f2 5), .int .i64 (f2 6), .int .i64 (f2 7), .int .i64 (f2 8), .int .i64 (f2 9), .int .i64 (f2 10)]) (.agg #[.int .i64 (f2 0), .int .i64 (f2 1), .int .i64 (f2 2), .int .i64 (f2 3), .int .i64 (f2 4), .int .i64 (f2 5), .int .i64 (f2 6), .int .i64 (f2 7), .int .i64 (f2 8), .int .i64 (f2 9), .int .i64 (f2 10)])).run Tryz.prog W = .ok (.bool false) W := fun W => neqR f2 HN2.out W
  clear M8 N8
  go_wp2_with (with_reducible refine wpList_load_row rfl 24 (.tmp 2) rfl w.heap.size rfl 24 (bRow f) (0, 0) _ K8.out.heap Tryz.underlying24 rfl (blkInfR _) ?_)
  refine (CE.out _).mono ?_
  clear m0 m1 m2 m3 m4 m5 m6 m7 m8 m9 m10 q0 q1 q2 q3 q4 q5 q6 q7 q8 q9 q10
  rintro e w9 ⟨rfl, hb9⟩
  have K9 : Hid (Bk w9 w.heap.size 24 (bRow f)) := K8.out.below hb9 K8.out.lt
  have B9 := Lib.hid (B8.out.trans (hb9.mono B8.out.size))
  have HL9 := Lib.hid (HL8.out.later hb9)
  clear hb9 K8 B8 HL8
  by_cases hE0 : E = 0
  · have CB2 := Lib.hid (CB.out hE0)
    have HEQ2 := Lib.hid (HEQ.out hE0)
    subst hE0
    clear CB CE
    go_wp2_with fail
    refine (CB2.out _ HL9.out).mono ?_
    rintro e wA ⟨rfl, hbA⟩
    have KA : Hid (Bk (wA.alloc (.cells (bRow f) 24)) w.heap.size 24 (bRow f)) := (K9.out.below hbA K9.out.lt).alloc _
    have MA := Lib.hid (Bk.new wA 24 (bRow f))
    have BA := Lib.hid ((B9.out.trans (hbA.mono B9.out.size)).alloc (by have := hbA.size; have := B9.out.size; omega) (.cells (bRow f) 24))
    clear hbA K9 B9 HL9
    have m0 := bRow_cells KA.out 0 (by omega)
    have m1 := bRow_cells KA.out 1 (by omega)
    have m2 := bRow_cells KA.out 2 (by omega)
    have m3 := bRow_cells KA.out 3 (by omega)
    have m4 := bRow_cells KA.out 4 (by omega)
    have m5 := bRow_cells KA.out 5 (by omega)
    have m6 := bRow_cells KA.out 6 (by omega)
    have m7 := bRow_cells KA.out 7 (by omega)
    have m8 := bRow_cells KA.out 8 (by omega)
    have m9 := bRow_cells KA.out 9 (by omega)
    have m10 := bRow_cells KA.out 10 (by omega)
    have q0 := bRow_cells MA.out 0 (by omega)
    have q1 := bRow_cells MA.out 1 (by omega)
    have q2 := bRow_cells MA.out 2 (by omega)
    have q3 := bRow_cells MA.out 3 (by omega)
    have q4 := bRow_cells MA.out 4 (by omega)
    have q5 := bRow_cells MA.out 5 (by omega)
    have q6 := bRow_cells MA.out 6 (by omega)
    have q7 := bRow_cells MA.out 7 (by omega)
    have q8 := bRow_cells MA.out 8 (by omega)
    have q9 := bRow_cells MA.out 9 (by omega)
    have q10 := bRow_cells MA.out 10 (by omega)
    have heq : ∀ W, (binOp .eql 24 (.agg #[.int .i64 (f 0), .int .i64 (f 1), .int .i64 (f 2), .int .i64 (f 3), .int .i64 (f 4), .int .i64 (f 5), .int .i64 (f 6), .int .i64 (f 7), .int .i64 (f 8), .int .i64 (f 9), .int .i64 (f 10)]) (.agg #[.int .i64 (f 0), .int .i64 (f 1), .int .i64 (f 2), .int .i64 (f 3), .int .i64 (f 4), .int .i64 (f 5), .int .i64 (f 6), .int .i64 (f 7), .int .i64 (f 8), .int .i64 (f 9), .int .i64 (f 10)])).run Tryz.prog W = .ok (.bool true) W := HEQ2.out
    go_wp2
    go_ret
    exact ⟨rfl, BA.out⟩
  · have hEn : (E != 0) = true := bne_iff_ne.2 hE0
    clear hE0
    go_wp2
    go_ret
    exact ⟨rfl, B9.out⟩

end Go.Proofs.YtkemoffagdilgaaGreatDoor
