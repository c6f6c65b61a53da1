import Derived.Test.YtkemoffagdilgaaDoorST12
namespace Go.Proofs.YtkemoffagdilgaaDoor
open Go.RowKit

theorem decimal_form (n : Int) (h0 : -9223372036854775808 ≤ n) (h1 : n ≤ 9223372036854775807) (X : ByteArray) (hX : (⟨(Lib.itoa n).toArray⟩ : ByteArray) = X) (w : World) :
    Calls Tryd.prog 24 #[.int .i64 n] w fun e w' => e = .returned (.string X) ∧ Below w.heap.size w w' := by
  rw [← hX]; exact decimal_any n w h0 h1

set_option maxRecDepth 100000 in
set_option maxHeartbeats 8000000 in
theorem refFmtC_none (nm : ByteArray) (k sd n d : Int) (w : World) (hk : k < 0 ∨ 3 ≤ k) :
    Calls Tryd.prog 8 #[.agg #[.string nm, .int .i64 k, .int .i64 sd, .int .i64 n, .int .i64 d]] w fun e w' => e = .returned (.string ⟨#[]⟩) ∧ Below w.heap.size w w' := by
  have hin : inB k 0 2 = false := by unfold inB; simp; omega
  clear hk
  go_enter Tryd.func8, Tryd.ntmps8
  go_wp2_with (go_at_call 23; refine (within_any _ _ _ _).mono ?_; rintro e w' ⟨rfl, rfl⟩)
  go_ret
  exact ⟨rfl, (Below.refl _ _).alloc (Nat.le_refl _) _⟩

set_option maxRecDepth 100000 in
set_option maxHeartbeats 8000000 in
theorem refFmtC_any (nm : ByteArray) (k : Nat) (sd n d : Int) (w : World) (hk : k < 3) (hnm : nm.size ≤ 1000)
    (hs : -9223372036854775808 ≤ sd ∧ sd ≤ 9223372036854775807) (hn : -9223372036854775808 ≤ n ∧ n ≤ 9223372036854775807) (hd : -9223372036854775808 ≤ d ∧ d ≤ 9223372036854775807) :
    Calls Tryd.prog 8 #[.agg #[.string nm, .int .i64 (k : Int), .int .i64 sd, .int .i64 n, .int .i64 d]] w fun e w' => e = .returned (.string (fmtC nm k sd n d)) ∧ Below w.heap.size w w' := by
  obtain ⟨S, hS⟩ : ∃ X, (⟨(Lib.itoa sd).toArray⟩ : ByteArray) = X := ⟨_, rfl⟩
  obtain ⟨N, hN⟩ : ∃ X, (⟨(Lib.itoa n).toArray⟩ : ByteArray) = X := ⟨_, rfl⟩
  obtain ⟨D, hD⟩ : ∃ X, (⟨(Lib.itoa d).toArray⟩ : ByteArray) = X := ⟨_, rfl⟩
  have hSz : S.size ≤ 20 := by rw [← hS, bytes_size]; exact itoa_size sd hs.1 hs.2
  have hNz : N.size ≤ 20 := by rw [← hN, bytes_size]; exact itoa_size n hn.1 hn.2
  have hDz : D.size ≤ 20 := by rw [← hD, bytes_size]; exact itoa_size d hd.1 hd.2
  have hKz : (kws k).size ≤ 10 := by
    rcases (show k = 0 ∨ k = 1 ∨ k = 2 by omega) with rfl | rfl | rfl <;> decide
  have CS : Hid (∀ W, _) := Lib.hid fun W => decimal_form sd hs.1 hs.2 S hS W
  have CN : Hid (∀ W, _) := Lib.hid fun W => decimal_form n hn.1 hn.2 N hN W
  have CD : Hid (∀ W, _) := Lib.hid fun W => decimal_form d hd.1 hd.2 D hD W
  have hin : inB (k : Int) 0 2 = true := by unfold inB; simp; omega
  have hkI : (k : Int) < 3 := by omega
  have HRES : Hid (nm ++ (⟨#[32]⟩ : ByteArray) ++ kws k ++ (⟨#[32]⟩ : ByteArray) ++ S ++ (⟨#[32]⟩ : ByteArray) ++ N ++ (⟨#[47]⟩ : ByteArray) ++ D = fmtC nm k sd n d) := by
    show _ = _
    rw [← hS, ← hN, ← hD]
    unfold fmtC
    apply ByteArray.ext
    simp
  obtain ⟨R, hR⟩ : ∃ R, fmtC nm k sd n d = R := ⟨_, rfl⟩
  rw [hR] at HRES ⊢
  clear hs hn hd hS hN hD hR
  obtain ⟨K, hK⟩ : ∃ K, kws k = K := ⟨_, rfl⟩
  have HK := Lib.hid hK
  rw [hK] at hKz HRES
  clear hK
  have z1 : ¬ 9223372036854775807 < nm.size + 1 := by omega
  have z2 : ¬ 9223372036854775807 < nm.size + 1 + K.size := by omega
  have z3 : ¬ 9223372036854775807 < nm.size + 1 + K.size + 1 := by omega
  have z4 : ¬ 9223372036854775807 < nm.size + 1 + K.size + 1 + S.size := by omega
  have z5 : ¬ 9223372036854775807 < nm.size + 1 + K.size + 1 + S.size + 1 := by omega
  have z6 : ¬ 9223372036854775807 < nm.size + 1 + K.size + 1 + S.size + 1 + N.size := by omega
  have z7 : ¬ 9223372036854775807 < nm.size + 1 + K.size + 1 + S.size + 1 + N.size + 1 := by omega
  have z8 : ¬ 9223372036854775807 < nm.size + 1 + K.size + 1 + S.size + 1 + N.size + 1 + D.size := by omega
  clear hSz hNz hDz hKz
  have HB1 : Hid (Below w.heap.size w (w.alloc (.cells (cRow nm k sd n d) 25))) := (Below.refl _ _).alloc (Nat.le_refl _) _
  go_enter Tryd.func8, Tryd.ntmps8
  go_wp2_with (go_at_call 23; refine (within_any _ _ _ _).mono ?_; rintro e w' ⟨rfl, rfl⟩)
  go_region_held3 (fun W => Below w.heap.size w W ∧ W.cell? ⟨w.heap.size, 0, none⟩ = some (.string nm) ∧ W.cell? ⟨w.heap.size, 1, none⟩ = some (.int .i64 (k : Int)) ∧ W.cell? ⟨w.heap.size, 2, none⟩ = some (.int .i64 sd) ∧ W.cell? ⟨w.heap.size, 3, none⟩ = some (.int .i64 n) ∧ W.cell? ⟨w.heap.size, 4, none⟩ = some (.int .i64 d) ∧ w.heap.size < W.heap.size)
    ((go_split_ands; refine ⟨?_, ?_, ?_, ?_, ?_, ?_, ?_⟩ <;> first
      | assumption | exact HB1.out.drew
      | (exact Below.trans (by assumption) (hb.mono (Nat.le_of_lt (by assumption))))
      | (rw [hb.cell (by assumption)]; assumption)
      | (exact Nat.lt_of_lt_of_le (by assumption) hb.size)
      | (simp [go_sem]; done)
      | (simp; omega)))
    (first
      | (go_at_call 21; refine (words_form _).mono ?_; rintro e w' ⟨g', rfl, hk', hb⟩; have hkj := (wkw hk' k hk).trans (by rw [HK.out] : some (Value.string (kws k)) = some (.string K)); have hgl : g' < w'.heap.size := hk'.lt; clear hk')
      | (go_at_call 24; with_reducible refine (CS.out _).mono ?_; rintro e w' ⟨rfl, hb⟩; try (have hkj := (hb.cell hgl).trans hkj; have hgl := Nat.lt_of_lt_of_le hgl hb.size))
      | (go_at_call 24; with_reducible refine (CN.out _).mono ?_; rintro e w' ⟨rfl, hb⟩; try (have hkj := (hb.cell hgl).trans hkj; have hgl := Nat.lt_of_lt_of_le hgl hb.size))
      | (go_at_call 24; with_reducible refine (CD.out _).mono ?_; rintro e w' ⟨rfl, hb⟩; try (have hkj := (hb.cell hgl).trans hkj; have hgl := Nat.lt_of_lt_of_le hgl hb.size)))
  all_goals
    go_wp2
    go_ret
    have := ‹Below w.heap.size w _ ∧ _›
    exact ⟨by rw [← HRES.out]; rfl, by first | exact this.1 | exact this.1.drew⟩

end Go.Proofs.YtkemoffagdilgaaDoor
