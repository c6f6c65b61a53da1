import Derived.Test.YtkemoffagdilgaaDoorST14
import Derived.Test.YtkemoffagdilgaaDoorW22
namespace Go.Proofs.YtkemoffagdilgaaDoor
open Go.RowKit

def fmtT (nm : ByteArray) (k sd n d : Int) : ByteArray := if 0 ≤ k ∧ k < 3 then fmtC nm k.toNat sd n d else ⟨#[]⟩
theorem row_cells {W : World} {g : Nat} {nm : ByteArray} {k sd n d : Int} (h : Bk W g 25 (cRow nm k sd n d)) : W.cell? ⟨g, 0, none⟩ = some (.string nm) ∧ W.cell? ⟨g, 1, none⟩ = some (.int .i64 k) ∧ W.cell? ⟨g, 2, none⟩ = some (.int .i64 sd) ∧ W.cell? ⟨g, 3, none⟩ = some (.int .i64 n) ∧ W.cell? ⟨g, 4, none⟩ = some (.int .i64 d) :=
  ⟨by rw [h.cell]; rfl, by rw [h.cell]; rfl, by rw [h.cell]; rfl, by rw [h.cell]; rfl, by rw [h.cell]; rfl⟩
theorem fmtT_code (nm : ByteArray) (k sd n d : Int) (w : World) (hl : LaidS w) (hnm : nm.size ≤ 1000)
    (hs : -9223372036854775808 ≤ sd ∧ sd ≤ 9223372036854775807) (hn : -9223372036854775808 ≤ n ∧ n ≤ 9223372036854775807) (hd : -9223372036854775808 ≤ d ∧ d ≤ 9223372036854775807) :
    Calls Tryd.prog 5 #[.agg #[.string nm, .int .i64 k, .int .i64 sd, .int .i64 n, .int .i64 d]] w fun e w' => e = .returned (.string (fmtT nm k sd n d)) ∧ Below w.heap.size w w' := by
  unfold fmtT
  split
  · rename_i h
    have := formatC_any nm k.toNat sd n d w hl (by omega) hnm hs hn hd
    rwa [show ((k.toNat : Nat) : Int) = k by omega] at this
  · exact formatC_none nm k sd n d w (by omega)
theorem fmtT_ref (nm : ByteArray) (k sd n d : Int) (w : World) (hnm : nm.size ≤ 1000)
    (hs : -9223372036854775808 ≤ sd ∧ sd ≤ 9223372036854775807) (hn : -9223372036854775808 ≤ n ∧ n ≤ 9223372036854775807) (hd : -9223372036854775808 ≤ d ∧ d ≤ 9223372036854775807) :
    Calls Tryd.prog 8 #[.agg #[.string nm, .int .i64 k, .int .i64 sd, .int .i64 n, .int .i64 d]] w fun e w' => e = .returned (.string (fmtT nm k sd n d)) ∧ Below w.heap.size w w' := by
  unfold fmtT
  split
  · rename_i h
    have := refFmtC_any nm k.toNat sd n d w (by omega) hnm hs hn hd
    rwa [show ((k.toNat : Nat) : Int) = k by omega] at this
  · exact refFmtC_none nm k sd n d w (by omega)
theorem fmtT_size (nm : ByteArray) (k sd n d : Int) (hnm : nm.size ≤ 20)
    (hs : -9223372036854775808 ≤ sd ∧ sd ≤ 9223372036854775807) (hn : -9223372036854775808 ≤ n ∧ n ≤ 9223372036854775807) (hd : -9223372036854775808 ≤ d ∧ d ≤ 9223372036854775807) : (fmtT nm k sd n d).size ≤ 1000 := by
  unfold fmtT
  split
  · rename_i h
    have h1 := itoa_size sd hs.1 hs.2
    have h2 := itoa_size n hn.1 hn.2
    have h3 := itoa_size d hd.1 hd.2
    have h4 : (kws k.toNat).size ≤ 10 := by
      obtain ⟨j, hj⟩ : ∃ j, k.toNat = j := ⟨_, rfl⟩
      rw [hj]
      rcases (show j = 0 ∨ j = 1 ∨ j = 2 by omega) with rfl | rfl | rfl <;> decide
    have e : ∀ z : ByteArray, z.data.toList.length = z.size := fun z => by simp
    unfold fmtC
    rw [bytes_size]
    simp only [List.length_append, List.length_cons, e]
    omega
  · decide
theorem fmtT_back (nm : ByteArray) (k sd n d : Int) (h : carrE nm.data.toList k sd n d = 0) : parC (fmtT nm k sd n d) = (cRow nm k sd n d, 0) := by
  obtain ⟨_, h2, h3, h4, h5⟩ := carrE_parts h
  unfold fmtT
  rw [if_pos h2]
  obtain ⟨k', rfl⟩ : ∃ j : Nat, k = j := ⟨k.toNat, by omega⟩
  obtain ⟨s', rfl⟩ : ∃ j : Nat, sd = j := ⟨sd.toNat, by omega⟩
  obtain ⟨n', rfl⟩ : ∃ j : Nat, n = j := ⟨n.toNat, by omega⟩
  obtain ⟨d', rfl⟩ : ∃ j : Nat, d = j := ⟨d.toNat, by omega⟩
  exact fmtC_back nm k' s' n' d' h

set_option maxRecDepth 100000 in
set_option maxHeartbeats 4000000 in
theorem cs_long (nm s : ByteArray) (k sd n d : Int) (w : World) (hl : LaidS w) (h : 20 < nm.size ∨ (nm.size ≤ 20 ∧ 80 < s.size)) :
    Calls Tryd.prog 3 #[.agg #[.string nm, .int .i64 k, .int .i64 sd, .int .i64 n, .int .i64 d], .string s] w fun e w' => e = .returned (.bool true) ∧ Below w.heap.size w w' := by
  obtain ⟨w1, hw1⟩ : ∃ W, w.alloc (.cells (cRow nm k sd n d) 25) = W := ⟨_, rfl⟩
  have B1 : Hid (Below w.heap.size w w1) := by show Below _ _ _; rw [← hw1]; exact (Below.refl _ _).alloc (Nat.le_refl _) _
  have K1 : Hid (Bk w1 w.heap.size 25 (cRow nm k sd n d)) := by show Bk _ _ _ _; rw [← hw1]; exact Bk.new _ _ _
  have CA := Lib.hid (awake_any w1 (hl.later B1.out).pr)
  have HW1 := Lib.hid hw1
  have hc : (20 : Int) < (nm.size : Int) ∨ (¬ (20 : Int) < (nm.size : Int) ∧ (80 : Int) < (s.size : Int)) := by omega
  clear hl h hw1
  rcases hc with hc | ⟨hc, hc2⟩
  all_goals
    go_enter Tryd.func3, Tryd.ntmps3
    go_wp2_with fail
    refine Calls.mono (w := w.alloc (.cells (cRow nm k sd n d) 25)) (by rw [HW1.out]; exact CA.out) ?_
    rintro e w2 ⟨rfl, hb2⟩
    have c0 : w2.cell? ⟨w.heap.size, 0, none⟩ = some (.string nm) := by rw [hb2.cell K1.out.lt, K1.out.cell]; rfl
    have B2 := Lib.hid (B1.out.trans (hb2.mono B1.out.size))
    clear hb2
    go_wp2
    go_ret
    exact ⟨rfl, B2.out⟩

set_option maxRecDepth 100000 in
set_option maxHeartbeats 8000000 in
theorem cs_main (nm s : ByteArray) (k sd n d : Int) (w : World) (hl : LaidS w) (hnm : nm.size ≤ 20) (hsz : s.size ≤ 80)
    (hs : -9223372036854775808 ≤ sd ∧ sd ≤ 9223372036854775807) (hn : -9223372036854775808 ≤ n ∧ n ≤ 9223372036854775807) (hd : -9223372036854775808 ≤ d ∧ d ≤ 9223372036854775807) :
    Calls Tryd.prog 3 #[.agg #[.string nm, .int .i64 k, .int .i64 sd, .int .i64 n, .int .i64 d], .string s] w fun e w' => e = .returned (.bool true) ∧ Below w.heap.size w w' := by
  obtain ⟨w1, hw1⟩ : ∃ W, w.alloc (.cells (cRow nm k sd n d) 25) = W := ⟨_, rfl⟩
  have B1 : Hid (Below w.heap.size w w1) := by show Below _ _ _; rw [← hw1]; exact (Below.refl _ _).alloc (Nat.le_refl _) _
  have K1 : Hid (Bk w1 w.heap.size 25 (cRow nm k sd n d)) := by show Bk _ _ _ _; rw [← hw1]; exact Bk.new _ _ _
  have HL1 := Lib.hid (hl.later B1.out)
  have CA := Lib.hid (awake_any w1 HL1.out.pr)
  have HW1 := Lib.hid hw1
  obtain ⟨T, hT⟩ : ∃ T, fmtT nm k sd n d = T := ⟨_, rfl⟩
  obtain ⟨E, hE⟩ : ∃ E, carrE nm.data.toList k sd n d = E := ⟨_, rfl⟩
  have hTz : T.size ≤ 1000 := by rw [← hT]; exact fmtT_size nm k sd n d hnm hs hn hd
  have CF : Hid (∀ W, LaidS W → _) := Lib.hid fun W hW => fmtT_code nm k sd n d W hW (by omega) hs hn hd
  have CG : Hid (∀ W, _) := Lib.hid fun W => fmtT_ref nm k sd n d W (by omega) hs hn hd
  obtain ⟨nm2, k2, sd2, n2, d2, r, hP⟩ := parC_form s (by omega)
  have CP : Hid (∀ W, LaidS W → _) := Lib.hid fun W hW => codePC_any s W hW (by omega)
  have CQ : Hid (∀ W, _) := Lib.hid fun W => refPC_any s W (by omega)
  have CE : Hid (∀ W, _) := Lib.hid fun W => carrierErrC_any nm k sd n d W (by omega) hn.1 hn.2 hd.2
  have CB : Hid (E = 0 → ∀ W, LaidS W → Calls Tryd.prog 6 #[.string T] W fun e w' => e = .returned (.tuple #[.agg (cRow nm k sd n d), .int .i64 0]) ∧ Below W.heap.size W w') := fun hE0 W hW => by
    have := codePC_any T W hW hTz
    rw [← hT, fmtT_back nm k sd n d (hE.trans hE0)] at this
    rw [← hT]
    exact this
  rw [hT] at CF CG
  rw [hP] at CP CQ
  rw [hE] at CE
  have hc : ¬ (20 : Int) < (nm.size : Int) := by omega
  have hc2 : ¬ (80 : Int) < (s.size : Int) := by omega
  clear hl hw1 hT hE hTz hP hs hn hd
  go_enter Tryd.func3, Tryd.ntmps3
  go_wp2_with fail
  refine Calls.mono (w := w.alloc (.cells (cRow nm k sd n d) 25)) (by rw [HW1.out]; exact CA.out) ?_
  rintro e w2 ⟨rfl, hb2⟩
  have K2 : Hid (Bk w2 w.heap.size 25 (cRow nm k sd n d)) := K1.out.below hb2 K1.out.lt
  have c0 : w2.cell? ⟨w.heap.size, 0, none⟩ = some (.string nm) := by rw [K2.out.cell]; rfl
  have B2 := Lib.hid (B1.out.trans (hb2.mono B1.out.size))
  have HL2 := Lib.hid (HL1.out.later hb2)
  clear hb2 K1 B1 HL1 CA HW1
  go_wp2_with (with_reducible refine wpList_load_row rfl 25 (.tmp 2) rfl w.heap.size rfl 25 (cRow nm k sd n d) (0, 0) _ K2.out.heap Tryd.underlying25 rfl (carInfo _ _ _ _ _) ?_)
  refine (CF.out _ HL2.out).mono ?_
  rintro e w3 ⟨rfl, hb3⟩
  have K3 : Hid (Bk w3 w.heap.size 25 (cRow nm k sd n d)) := K2.out.below hb3 K2.out.lt
  have B3 := Lib.hid (B2.out.trans (hb3.mono B2.out.size))
  have HL3 := Lib.hid (HL2.out.later hb3)
  clear hb3 K2 B2 HL2 c0 hc hc2
  go_wp2_with fail
  refine (CP.out _ HL3.out).mono ?_
  rintro e w4 ⟨rfl, hb4⟩
  have K5 := Lib.hid ((K3.out.below hb4 K3.out.lt).alloc (.cells (cRow nm2 k2 sd2 n2 d2) 25))
  have M5 := Lib.hid (Bk.new w4 25 (cRow nm2 k2 sd2 n2 d2))
  have B5 := Lib.hid ((B3.out.trans (hb4.mono B3.out.size)).alloc (by have := hb4.size; have := B3.out.size; omega) (.cells (cRow nm2 k2 sd2 n2 d2) 25))
  have HL5 := Lib.hid ((HL3.out.later hb4).alloc (.cells (cRow nm2 k2 sd2 n2 d2) 25))
  clear hb4 K3 B3 HL3
  go_wp2_with fail
  obtain ⟨w5, hw5⟩ : ∃ W, w4.alloc (.cells (cRow nm2 k2 sd2 n2 d2) 25) = W := ⟨_, rfl⟩
  refine Calls.mono (w := w4.alloc (.cells (cRow nm2 k2 sd2 n2 d2) 25)) (CQ.out _) ?_
  rw [hw5] at K5 M5 B5 HL5 ⊢
  clear hw5
  rintro e w6 ⟨rfl, hb6⟩
  have K7 := Lib.hid ((K5.out.below hb6 K5.out.lt).alloc (.cells (cRow nm2 k2 sd2 n2 d2) 25))
  have M7 := Lib.hid ((M5.out.below hb6 M5.out.lt).alloc (.cells (cRow nm2 k2 sd2 n2 d2) 25))
  have N7 := Lib.hid (Bk.new w6 25 (cRow nm2 k2 sd2 n2 d2))
  have B7 := Lib.hid ((B5.out.trans (hb6.mono B5.out.size)).alloc (by have := hb6.size; have := B5.out.size; omega) (.cells (cRow nm2 k2 sd2 n2 d2) 25))
  have HL7 := Lib.hid ((HL5.out.later hb6).alloc (.cells (cRow nm2 k2 sd2 n2 d2) 25))
  clear hb6 K5 M5 B5 HL5
  have HK7 : Hid (Bk (w6.alloc (.cells (cRow nm2 k2 sd2 n2 d2) 25)) w.heap.size 25 (cRow nm k sd n d)) := K7.out
  go_wp2_with (with_reducible refine wpList_load_row rfl 25 (.tmp 2) rfl w.heap.size rfl 25 (cRow nm k sd n d) (0, 0) _ HK7.out.heap Tryd.underlying25 rfl (carInfo _ _ _ _ _) ?_)
  obtain ⟨w7, hw7⟩ : ∃ W, w6.alloc (.cells (cRow nm2 k2 sd2 n2 d2) 25) = W := ⟨_, rfl⟩
  refine Calls.mono (w := w6.alloc (.cells (cRow nm2 k2 sd2 n2 d2) 25)) (CG.out _) ?_
  clear HK7
  rw [hw7] at K7 M7 N7 B7 HL7 ⊢
  clear hw7
  rintro e w8 ⟨rfl, hb8⟩
  have K8 : Hid (Bk w8 w.heap.size 25 (cRow nm k sd n d)) := K7.out.below hb8 K7.out.lt
  have M8 : Hid (Bk w8 w4.heap.size 25 (cRow nm2 k2 sd2 n2 d2)) := M7.out.below hb8 M7.out.lt
  have N8 : Hid (Bk w8 w6.heap.size 25 (cRow nm2 k2 sd2 n2 d2)) := N7.out.below hb8 N7.out.lt
  have B8 := Lib.hid (B7.out.trans (hb8.mono B7.out.size))
  have HL8 := Lib.hid (HL7.out.later hb8)
  clear hb8 K7 M7 N7 B7 HL7
  obtain ⟨m0, m1, m2, m3, m4⟩ := row_cells M8.out
  obtain ⟨q0, q1, q2, q3, q4⟩ := row_cells N8.out
  clear M8 N8
  go_wp2_with (with_reducible refine wpList_load_row rfl 25 (.tmp 2) rfl w.heap.size rfl 25 (cRow nm k sd n d) (0, 0) _ K8.out.heap Tryd.underlying25 rfl (carInfo _ _ _ _ _) ?_)
  refine (CE.out _).mono ?_
  clear m0 m1 m2 m3 m4 q0 q1 q2 q3 q4
  rintro e w9 ⟨rfl, hb9⟩
  have K9 : Hid (Bk w9 w.heap.size 25 (cRow nm k sd n d)) := K8.out.below hb9 K8.out.lt
  have B9 := Lib.hid (B8.out.trans (hb9.mono B8.out.size))
  have HL9 := Lib.hid (HL8.out.later hb9)
  clear hb9 K8 B8 HL8
  by_cases hE0 : E = 0
  · have CB2 := Lib.hid (CB.out hE0)
    subst hE0
    clear CB CE
    go_wp2_with fail
    refine (CB2.out _ HL9.out).mono ?_
    rintro e wA ⟨rfl, hbA⟩
    have KA : Hid (Bk (wA.alloc (.cells (cRow nm k sd n d) 25)) w.heap.size 25 (cRow nm k sd n d)) := (K9.out.below hbA K9.out.lt).alloc _
    have MA := Lib.hid (Bk.new wA 25 (cRow nm k sd n d))
    have BA := Lib.hid ((B9.out.trans (hbA.mono B9.out.size)).alloc (by have := hbA.size; have := B9.out.size; omega) (.cells (cRow nm k sd n d) 25))
    clear hbA K9 B9 HL9
    obtain ⟨m0, m1, m2, m3, m4⟩ := row_cells KA.out
    obtain ⟨q0, q1, q2, q3, q4⟩ := row_cells MA.out
    go_wp2
    go_ret
    exact ⟨rfl, BA.out⟩
  · have hEn : (E != 0) = true := bne_iff_ne.2 hE0
    clear hE0
    go_wp2
    go_ret
    exact ⟨rfl, B9.out⟩

theorem cs_any (nm s : ByteArray) (k sd n d : Int) (w : World) (hl : LaidS w)
    (hs : -9223372036854775808 ≤ sd ∧ sd ≤ 9223372036854775807) (hn : -9223372036854775808 ≤ n ∧ n ≤ 9223372036854775807) (hd : -9223372036854775808 ≤ d ∧ d ≤ 9223372036854775807) :
    Calls Tryd.prog 3 #[.agg #[.string nm, .int .i64 k, .int .i64 sd, .int .i64 n, .int .i64 d], .string s] w fun e w' => e = .returned (.bool true) ∧ Below w.heap.size w w' := by
  by_cases h1 : nm.size ≤ 20
  · by_cases h2 : s.size ≤ 80
    · exact cs_main nm s k sd n d w hl h1 h2 hs hn hd
    · exact cs_long nm s k sd n d w hl (.inr ⟨h1, by omega⟩)
  · exact cs_long nm s k sd n d w hl (.inl (by omega))

end Go.Proofs.YtkemoffagdilgaaDoor
