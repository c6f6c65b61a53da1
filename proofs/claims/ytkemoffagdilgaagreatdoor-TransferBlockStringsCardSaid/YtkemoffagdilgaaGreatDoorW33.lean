import Derived.Test.YtkemoffagdilgaaGreatDoorW19
namespace Go.Proofs.YtkemoffagdilgaaGreatDoor
open Go.RowKit

set_option maxRecDepth 100000 in
set_option maxHeartbeats 2000000 in
theorem checkCarrier_pos (nm : ByteArray) (k sd n d : Int) (w : World) (hs : nm.size ≤ 9223372036854775806)
    (hn0 : -9223372036854775808 ≤ n) (hn1 : n ≤ 9223372036854775807) (hd1 : d ≤ 9223372036854775807) (hk : 0 < k) :
    Calls Tryz.prog 27 #[.agg #[.string nm, .int .i64 k, .int .i64 sd, .int .i64 n, .int .i64 d]] w fun e w' => e = .returned (.int .i64 (carrE nm.data.toList k sd n d)) ∧ Below w.heap.size w w' := by
  obtain ⟨b1, hb1⟩ : ∃ b, nameB nm.data.toList = b := ⟨_, rfl⟩
  obtain ⟨b2, hb2⟩ : ∃ b, lowB n d = b := ⟨_, rfl⟩
  have C1 : Hid (∀ W, Calls Tryz.prog 52 #[.string nm] W fun e w' => e = .returned (.bool b1) ∧ W = w') := fun W => by rw [← hb1]; exact isName_any nm W hs
  have C2 : Hid (∀ W, Calls Tryz.prog 53 #[.agg #[.int .i64 n, .int .i64 d]] W fun e w' => e = .returned (.bool b2) ∧ Below W.heap.size W w') := fun W => by rw [← hb2]; exact isLowest_any n d hn0 hn1 hd1 W
  have HE : Hid (carrE nm.data.toList k sd n d = firstE [whenE (!b1) 4, whenE (decide (k < 0) || decide (3 ≤ k)) 15, rangeE sd 1 2, whenE ((k != 0) && (sd == 2)) 3, whenE (!b2) 3, rangeE n 1 10000, rangeE d 1 10000]) := by show carrE _ _ _ _ _ = _; rw [carrE, hb1, hb2]
  clear hb1 hb2 hs hn0 hn1 hd1
  have g1 : decide (k < 0) = false := by simp; omega
  have g2 : (k != 0) = true := by rw [bne_iff_ne]; omega
  go_enter Tryz.func27, Tryz.ntmps27
  go_wp2_with fail
  go_region_held3 (fun w' => w'.cell? ⟨w.heap.size, 0, none⟩ = some (.string nm) ∧ w'.cell? ⟨w.heap.size, 1, none⟩ = some (.int .i64 k) ∧ w'.cell? ⟨w.heap.size, 2, none⟩ = some (.int .i64 sd) ∧ w'.cell? ⟨w.heap.size, 3, none⟩ = some (.int .i64 n) ∧ w'.cell? ⟨w.heap.size, 4, none⟩ = some (.int .i64 d) ∧ w.heap.size < w'.heap.size)
    ((go_split_ands; refine ⟨?_, ?_, ?_, ?_, ?_, ?_⟩ <;> first | assumption | (rw [hb.cell (by first | assumption | simp)]; first | assumption | (simp [go_sem]; done)) | exact Nat.lt_of_lt_of_le (by first | assumption | simp) hb.size | (go_keep; done) | (simp; omega)))
    (first
      | (go_at_call 52; refine (C1.out _).mono ?_; rintro e w' ⟨rfl, rfl⟩)
      | (go_at_call 53; refine (C2.out _).mono ?_; rintro e w' ⟨rfl, hb⟩)
      | (go_at_call 28; refine (when_any _ _ _).mono ?_; rintro e w' ⟨rfl, rfl⟩)
      | (go_at_call 29; refine (checkRange_any _ _ _ _).mono ?_; rintro e w' ⟨rfl, rfl⟩)
      | (go_at_call 26; refine (first7 _ _ _ _ _ _ _ _).mono ?_; rintro e w' ⟨rfl, rfl⟩))
  go_wp2
  go_ret
  refine ⟨?_, ((((Below.refl _ _).alloc (Nat.le_refl _) _).drew).trans (hb.mono (by simp))).alloc (by have := hb.size; simp at this; omega) _⟩
  rw [HE.out, g1, g2]
  rfl

end Go.Proofs.YtkemoffagdilgaaGreatDoor
