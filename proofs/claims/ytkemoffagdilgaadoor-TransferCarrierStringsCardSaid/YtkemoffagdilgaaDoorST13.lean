import Derived.Test.YtkemoffagdilgaaDoorST12
namespace Go.Proofs.YtkemoffagdilgaaDoor
open Go.RowKit

/-- The condition may be a stronger one from here on. -/
theorem wpAnyH_any {P : Program} {md : Region.Mode} {ops : Array Oper} {Q : Exit → Act → World → Prop} {S S' : World → Prop} (hSS : ∀ W, S' W → S W) {fuel : Nat} {listed : Array Bool} {a : Act} {w : World}
    (h : wpAnyH P md ops Q S' fuel listed a w) : wpAnyH P md ops Q S fuel listed a w := by
  induction fuel generalizing listed a w with
  | zero => exact h
  | succ m ih => exact ⟨h.1, fun i hi => wpOp_mono (fun a' w' h' => ⟨hSS _ h'.1, ih h'.2⟩) (h.2 i hi)⟩

theorem decimal_form (n : Int) (h0 : -9223372036854775808 ≤ n) (h1 : n ≤ 9223372036854775807) (X : ByteArray) (hX : (⟨(Lib.itoa n).toArray⟩ : ByteArray) = X) (w : World) :
    Calls Tryd.prog 24 #[.int .i64 n] w fun e w' => e = .returned (.string X) ∧ Below w.heap.size w w' := by
  rw [← hX]; exact decimal_any n w h0 h1

set_option maxRecDepth 100000 in
set_option maxHeartbeats 8000000 in
theorem refFmtC_none (nm : ByteArray) (k sd n d : Int) (w : World) (hk : k < 0 ∨ 3 ≤ k) :
    Calls Tryd.prog 8 #[.agg #[.string nm, .int .i64 k, .int .i64 sd, .int .i64 n, .int .i64 d]] w fun e w' => e = .returned (.string ⟨#[]⟩) ∧ Below w.heap.size w w' := by
  have hin : inB k 0 2 = false := by unfold inB; simp; omega
  clear hk
  go_enter Tryd.func8, Tryd.ntmps8
  go_wp2_with (go_at_call 23; refine (within_any _ _ _ _).mono ?_; rintro e w' ⟨rfl, rfl⟩)
  go_ret
  exact ⟨rfl, (Below.refl _ _).alloc (Nat.le_refl _) _⟩

set_option maxRecDepth 100000 in
set_option maxHeartbeats 8000000 in
theorem refFmtC_any (nm : ByteArray) (k : Nat) (sd n d : Int) (w : World) (hk : k < 3) (hnm : nm.size ≤ 1000)
    (hs : -9223372036854775808 ≤ sd ∧ sd ≤ 9223372036854775807) (hn : -9223372036854775808 ≤ n ∧ n ≤ 9223372036854775807) (hd : -9223372036854775808 ≤ d ∧ d ≤ 9223372036854775807) :
    Calls Tryd.prog 8 #[.agg #[.string nm, .int .i64 (k : Int), .int .i64 sd, .int .i64 n, .int .i64 d]] w fun e w' => e = .returned (.string (fmtC nm k sd n d)) ∧ Below w.heap.size w w' := by
  obtain ⟨S, hS⟩ : ∃ X, (⟨(Lib.itoa sd).toArray⟩ : ByteArray) = X := ⟨_, rfl⟩
  obtain ⟨N, hN⟩ : ∃ X, (⟨(Lib.itoa n).toArray⟩ : ByteArray) = X := ⟨_, rfl⟩
  obtain ⟨D, hD⟩ : ∃ X, (⟨(Lib.itoa d).toArray⟩ : ByteArray) = X := ⟨_, rfl⟩
  have hSz : S.size ≤ 20 := by rw [← hS, bytes_size]; exact itoa_size sd hs.1 hs.2
  have hNz : N.size ≤ 20 := by rw [← hN, bytes_size]; exact itoa_size n hn.1 hn.2
  have hDz : D.size ≤ 20 := by rw [← hD, bytes_size]; exact itoa_size d hd.1 hd.2
  have hKz : (kws k).size ≤ 10 := by
    rcases (show k = 0 ∨ k = 1 ∨ k = 2 by omega) with rfl | rfl | rfl <;> decide
  have CS : Hid (∀ W, _) := Lib.hid fun W => decimal_form sd hs.1 hs.2 S hS W
  have CN : Hid (∀ W, _) := Lib.hid fun W => decimal_form n hn.1 hn.2 N hN W
  have CD : Hid (∀ W, _) := Lib.hid fun W => decimal_form d hd.1 hd.2 D hD W
  have hin : inB (k : Int) 0 2 = true := by unfold inB; simp; omega
  have hkI : (k : Int) < 3 := by omega
  have HRES : Hid (nm ++ (⟨#[32]⟩ : ByteArray) ++ kws k ++ (⟨#[32]⟩ : ByteArray) ++ S ++ (⟨#[32]⟩ : ByteArray) ++ N ++ (⟨#[47]⟩ : ByteArray) ++ D = fmtC nm k sd n d) := by
    show _ = _
    rw [← hS, ← hN, ← hD]
    unfold fmtC
    apply ByteArray.ext
    simp
  obtain ⟨R, hR⟩ : ∃ R, fmtC nm k sd n d = R := ⟨_, rfl⟩
  rw [hR] at HRES ⊢
  clear hs hn hd hS hN hD hR
  obtain ⟨K, hK⟩ : ∃ K, kws k = K := ⟨_, rfl⟩
  have HK := Lib.hid hK
  rw [hK] at hKz HRES
  clear hK
  have z1 : ¬ 9223372036854775807 < nm.size + 1 := by omega
  have z2 : ¬ 9223372036854775807 < nm.size + 1 + K.size := by omega
  have z3 : ¬ 9223372036854775807 < nm.size + 1 + K.size + 1 := by omega
  have z4 : ¬ 9223372036854775807 < nm.size + 1 + K.size + 1 + S.size := by omega
  have z5 : ¬ 9223372036854775807 < nm.size + 1 + K.size + 1 + S.size + 1 := by omega
  have z6 : ¬ 9223372036854775807 < nm.size + 1 + K.size + 1 + S.size + 1 + N.size := by omega
  have z7 : ¬ 9223372036854775807 < nm.size + 1 + K.size + 1 + S.size + 1 + N.size + 1 := by omega
  have z8 : ¬ 9223372036854775807 < nm.size + 1 + K.size + 1 + S.size + 1 + N.size + 1 + D.size := by omega
  clear hSz hNz hDz hKz
  have HB1 : Hid (Below w.heap.size w (w.alloc (.cells (cRow nm k sd n d) 25))) := (Below.refl _ _).alloc (Nat.le_refl _) _
  go_enter Tryd.func8, Tryd.ntmps8
  go_wp2_with (go_at_call 23; refine (within_any _ _ _ _).mono ?_; rintro e w' ⟨rfl, rfl⟩)
  refine wp_region_held_drew (S := (fun W => Below w.heap.size w W ∧ W.cell? ⟨w.heap.size, 0, none⟩ = some (.string nm) ∧ W.cell? ⟨w.heap.size, 1, none⟩ = some (.int .i64 (k : Int)) ∧ W.cell? ⟨w.heap.size, 2, none⟩ = some (.int .i64 sd) ∧ W.cell? ⟨w.heap.size, 3, none⟩ = some (.int .i64 n) ∧ W.cell? ⟨w.heap.size, 4, none⟩ = some (.int .i64 d) ∧ w.heap.size < W.heap.size)) (by kernel_rfl) ?_ (fun hS => ?_)
  · refine ⟨HB1.out.drew, ?_, ?_, ?_, ?_, ?_, ?_⟩ <;> simp [go_sem]
  refine wpAnyH_take (i := 0) (v := ?_) rfl (by kernel_rfl) (by kernel_rfl) (by kernel_rfl) (fun _ _ _ h => h) (Or.inl ⟨by rfl, ?_⟩) hS ?_
  rotate_left
  · intro W hW
    (try dsimp only at hW)
    go_simp
    try with_reducible rfl
  try simp only [Act.put, List.setIfInBounds_toArray, List.set_cons_zero, List.set_cons_succ]
  refine wpAnyH_take (i := 1) (v := ?_) rfl (by kernel_rfl) (by kernel_rfl) (by kernel_rfl) (fun _ _ _ h => h) (Or.inl ⟨by rfl, ?_⟩) hS ?_
  rotate_left
  · intro W hW
    (try dsimp only at hW)
    go_simp
    try with_reducible rfl
  try simp only [Act.put, List.setIfInBounds_toArray, List.set_cons_zero, List.set_cons_succ]
  refine wpAnyH_take (i := 2) (v := ?_) rfl (by kernel_rfl) (by kernel_rfl) (by kernel_rfl) (fun _ _ _ h => h) (Or.inl ⟨by rfl, ?_⟩) hS ?_
  rotate_left
  · intro W hW
    (try dsimp only at hW)
    go_simp
    try with_reducible rfl
  try simp only [Act.put, List.setIfInBounds_toArray, List.set_cons_zero, List.set_cons_succ]
  refine wpAnyH_take (i := 4) (v := ?_) rfl (by kernel_rfl) (by kernel_rfl) (by kernel_rfl) (fun _ _ _ h => h) (Or.inl ⟨by rfl, ?_⟩) hS ?_
  rotate_left
  · intro W hW
    (try dsimp only at hW)
    go_simp
    try with_reducible rfl
  try simp only [Act.put, List.setIfInBounds_toArray, List.set_cons_zero, List.set_cons_succ]
  refine wpAnyH_take (i := 5) (v := ?_) rfl (by kernel_rfl) (by kernel_rfl) (by kernel_rfl) (fun _ _ _ h => h) (Or.inl ⟨by rfl, ?_⟩) hS ?_
  rotate_left
  · intro W hW
    (try dsimp only at hW)
    go_simp
    try with_reducible rfl
  try simp only [Act.put, List.setIfInBounds_toArray, List.set_cons_zero, List.set_cons_succ]
  refine wpAnyH_take (i := 10) (v := ?_) rfl (by kernel_rfl) (by kernel_rfl) (by kernel_rfl) (fun _ _ _ h => h) (Or.inl ⟨by rfl, ?_⟩) hS ?_
  rotate_left
  · intro W hW
    (try dsimp only at hW)
    go_simp
    try with_reducible rfl
  try simp only [Act.put, List.setIfInBounds_toArray, List.set_cons_zero, List.set_cons_succ]
  refine wpAnyH_take (i := 11) (v := ?_) rfl (by kernel_rfl) (by kernel_rfl) (by kernel_rfl) (fun _ _ _ h => h) (Or.inl ⟨by rfl, ?_⟩) hS ?_
  rotate_left
  · intro W hW
    (try dsimp only at hW)
    go_simp
    try with_reducible rfl
  try simp only [Act.put, List.setIfInBounds_toArray, List.set_cons_zero, List.set_cons_succ]
  refine wpAnyH_take (i := 15) (v := ?_) rfl (by kernel_rfl) (by kernel_rfl) (by kernel_rfl) (fun _ _ _ h => h) (Or.inl ⟨by rfl, ?_⟩) hS ?_
  rotate_left
  · intro W hW
    (try dsimp only at hW)
    go_simp
    try with_reducible rfl
  try simp only [Act.put, List.setIfInBounds_toArray, List.set_cons_zero, List.set_cons_succ]
  refine wpAnyH_take (i := 16) (v := ?_) rfl (by kernel_rfl) (by kernel_rfl) (by kernel_rfl) (fun _ _ _ h => h) (Or.inl ⟨by rfl, ?_⟩) hS ?_
  rotate_left
  · intro W hW
    (try dsimp only at hW)
    go_simp
    try with_reducible rfl
  try simp only [Act.put, List.setIfInBounds_toArray, List.set_cons_zero, List.set_cons_succ]
  refine wpAnyH_take (i := 17) (v := ?_) rfl (by kernel_rfl) (by kernel_rfl) (by kernel_rfl) (fun _ _ _ h => h) (Or.inl ⟨by rfl, ?_⟩) hS ?_
  rotate_left
  · intro W hW
    (try dsimp only at hW)
    go_simp
    try with_reducible rfl
  try simp only [Act.put, List.setIfInBounds_toArray, List.set_cons_zero, List.set_cons_succ]
  refine wpAnyH_take (i := 21) (v := ?_) rfl (by kernel_rfl) (by kernel_rfl) (by kernel_rfl) (fun _ _ _ h => h) (Or.inl ⟨by rfl, ?_⟩) hS ?_
  rotate_left
  · intro W hW
    (try dsimp only at hW)
    go_simp
    try with_reducible rfl
  try simp only [Act.put, List.setIfInBounds_toArray, List.set_cons_zero, List.set_cons_succ]
  refine wpAnyH_take (i := 22) (v := ?_) rfl (by kernel_rfl) (by kernel_rfl) (by kernel_rfl) (fun _ _ _ h => h) (Or.inl ⟨by rfl, ?_⟩) hS ?_
  rotate_left
  · intro W hW
    (try dsimp only at hW)
    go_simp
    try with_reducible rfl
  try simp only [Act.put, List.setIfInBounds_toArray, List.set_cons_zero, List.set_cons_succ]
  refine wpAnyH_take (i := 23) (v := ?_) rfl (by kernel_rfl) (by kernel_rfl) (by kernel_rfl) (fun _ _ _ h => h) (Or.inl ⟨by rfl, ?_⟩) hS ?_
  rotate_left
  · intro W hW
    (try dsimp only at hW)
    go_simp
    try with_reducible rfl
  try simp only [Act.put, List.setIfInBounds_toArray, List.set_cons_zero, List.set_cons_succ]
  refine wpAnyH_ready (rs := [3]) (by kernel_rfl) (by simp) ?_
  refine AllReadyH.cons rfl (fun K' hK => ?_) AllReadyH.nil
  go_simp
  go_at_call 21
  refine (words_form _).mono ?_
  rintro e w4 ⟨g', rfl, hk', hb⟩
  have hkj : w4.cell? ⟨g', k, none⟩ = some (.string K) := (wkw hk' k hk).trans (by rw [HK.out])
  have hgl : g' < w4.heap.size := hk'.lt
  have hsz : w.heap.size < w4.heap.size := Nat.lt_of_lt_of_le hS.2.2.2.2.2.2 hb.size
  have hbb : Below w.heap.size w w4 := hS.1.trans (hb.mono (Nat.le_of_lt hS.2.2.2.2.2.2))
  have hS4 := hS
  refine hK.out _ _ ⟨hbb, (hb.cell hS4.2.2.2.2.2.2).trans hS4.2.1, (hb.cell hS4.2.2.2.2.2.2).trans hS4.2.2.1, (hb.cell hS4.2.2.2.2.2.2).trans hS4.2.2.2.1, (hb.cell hS4.2.2.2.2.2.2).trans hS4.2.2.2.2.1, (hb.cell hS4.2.2.2.2.2.2).trans hS4.2.2.2.2.2.1, hsz⟩ (fun hS5 => ?_)
  refine wpAnyH_any (S' := (fun W => (W.cell? ⟨g', k, none⟩ = some (.string K) ∧ g' < W.heap.size) ∧ Below w.heap.size w W ∧ W.cell? ⟨w.heap.size, 0, none⟩ = some (.string nm) ∧ W.cell? ⟨w.heap.size, 1, none⟩ = some (.int .i64 (k : Int)) ∧ W.cell? ⟨w.heap.size, 2, none⟩ = some (.int .i64 sd) ∧ W.cell? ⟨w.heap.size, 3, none⟩ = some (.int .i64 n) ∧ W.cell? ⟨w.heap.size, 4, none⟩ = some (.int .i64 d) ∧ w.heap.size < W.heap.size)) (fun W h => h.2) ?_
  have hS : (w4.cell? ⟨g', k, none⟩ = some (.string K) ∧ g' < w4.heap.size) ∧ _ := ⟨⟨hkj, hgl⟩, hS5⟩
  clear hK K' hb hk' hS4 hS5 hkj hgl hsz hbb
  try simp only [Act.put, List.setIfInBounds_toArray, List.set_cons_zero, List.set_cons_succ]
  refine wpAnyH_take (i := 6) (v := ?_) rfl (by kernel_rfl) (by kernel_rfl) (by kernel_rfl) (fun _ _ _ h => h) (Or.inl ⟨by rfl, ?_⟩) hS ?_
  rotate_left
  · intro W hW
    (try dsimp only at hW)
    go_simp
    try with_reducible rfl
  try simp only [Act.put, List.setIfInBounds_toArray, List.set_cons_zero, List.set_cons_succ]
  refine wpAnyH_take (i := 7) (v := ?_) rfl (by kernel_rfl) (by kernel_rfl) (by kernel_rfl) (fun _ _ _ h => h) (Or.inl ⟨by rfl, ?_⟩) hS ?_
  rotate_left
  · intro W hW
    (try dsimp only at hW)
    go_simp
    try with_reducible rfl
  try simp only [Act.put, List.setIfInBounds_toArray, List.set_cons_zero, List.set_cons_succ]
  refine wpAnyH_take (i := 8) (v := ?_) rfl (by kernel_rfl) (by kernel_rfl) (by kernel_rfl) (fun _ _ _ h => h) (Or.inl ⟨by rfl, ?_⟩) hS ?_
  rotate_left
  · intro W hW
    (try dsimp only at hW)
    go_simp
    try with_reducible rfl
  try simp only [Act.put, List.setIfInBounds_toArray, List.set_cons_zero, List.set_cons_succ]
  refine wpAnyH_take (i := 9) (v := ?_) rfl (by kernel_rfl) (by kernel_rfl) (by kernel_rfl) (fun _ _ _ h => h) (Or.inl ⟨by rfl, ?_⟩) hS ?_
  rotate_left
  · intro W hW
    (try dsimp only at hW)
    go_simp
    try with_reducible rfl
  try simp only [Act.put, List.setIfInBounds_toArray, List.set_cons_zero, List.set_cons_succ]
  refine wpAnyH_ready (rs := [12]) (by kernel_rfl) (by simp) ?_
  refine AllReadyH.cons rfl (fun K' hK => ?_) AllReadyH.nil
  go_simp
  go_at_call 24
  with_reducible refine (CS.out _).mono ?_
  rintro e w5 ⟨rfl, hb⟩
  have hS2 := hS
  refine hK.out _ _ ⟨⟨(hb.cell hS2.1.2).trans hS2.1.1, Nat.lt_of_lt_of_le hS2.1.2 hb.size⟩, hS2.2.1.trans (hb.mono (Nat.le_of_lt hS2.2.2.2.2.2.2.2)), (hb.cell hS2.2.2.2.2.2.2.2).trans hS2.2.2.1, (hb.cell hS2.2.2.2.2.2.2.2).trans hS2.2.2.2.1, (hb.cell hS2.2.2.2.2.2.2.2).trans hS2.2.2.2.2.1, (hb.cell hS2.2.2.2.2.2.2.2).trans hS2.2.2.2.2.2.1, (hb.cell hS2.2.2.2.2.2.2.2).trans hS2.2.2.2.2.2.2.1, Nat.lt_of_lt_of_le hS2.2.2.2.2.2.2.2 hb.size⟩ (fun hS => ?_)
  clear hK K' hb hS2
  try simp only [Act.put, List.setIfInBounds_toArray, List.set_cons_zero, List.set_cons_succ]
  refine wpAnyH_take (i := 13) (v := ?_) rfl (by kernel_rfl) (by kernel_rfl) (by kernel_rfl) (fun _ _ _ h => h) (Or.inl ⟨by rfl, ?_⟩) hS ?_
  rotate_left
  · intro W hW
    (try dsimp only at hW)
    go_simp
    try with_reducible rfl
  try simp only [Act.put, List.setIfInBounds_toArray, List.set_cons_zero, List.set_cons_succ]
  refine wpAnyH_take (i := 14) (v := ?_) rfl (by kernel_rfl) (by kernel_rfl) (by kernel_rfl) (fun _ _ _ h => h) (Or.inl ⟨by rfl, ?_⟩) hS ?_
  rotate_left
  · intro W hW
    (try dsimp only at hW)
    go_simp
    try with_reducible rfl
  try simp only [Act.put, List.setIfInBounds_toArray, List.set_cons_zero, List.set_cons_succ]
  refine wpAnyH_ready (rs := [18]) (by kernel_rfl) (by simp) ?_
  refine AllReadyH.cons rfl (fun K' hK => ?_) AllReadyH.nil
  go_simp
  go_at_call 24
  with_reducible refine (CN.out _).mono ?_
  rintro e w6 ⟨rfl, hb⟩
  have hS2 := hS
  refine hK.out _ _ ⟨⟨(hb.cell hS2.1.2).trans hS2.1.1, Nat.lt_of_lt_of_le hS2.1.2 hb.size⟩, hS2.2.1.trans (hb.mono (Nat.le_of_lt hS2.2.2.2.2.2.2.2)), (hb.cell hS2.2.2.2.2.2.2.2).trans hS2.2.2.1, (hb.cell hS2.2.2.2.2.2.2.2).trans hS2.2.2.2.1, (hb.cell hS2.2.2.2.2.2.2.2).trans hS2.2.2.2.2.1, (hb.cell hS2.2.2.2.2.2.2.2).trans hS2.2.2.2.2.2.1, (hb.cell hS2.2.2.2.2.2.2.2).trans hS2.2.2.2.2.2.2.1, Nat.lt_of_lt_of_le hS2.2.2.2.2.2.2.2 hb.size⟩ (fun hS => ?_)
  clear hK K' hb hS2
  try simp only [Act.put, List.setIfInBounds_toArray, List.set_cons_zero, List.set_cons_succ]
  refine wpAnyH_take (i := 19) (v := ?_) rfl (by kernel_rfl) (by kernel_rfl) (by kernel_rfl) (fun _ _ _ h => h) (Or.inl ⟨by rfl, ?_⟩) hS ?_
  rotate_left
  · intro W hW
    (try dsimp only at hW)
    go_simp
    try with_reducible rfl
  try simp only [Act.put, List.setIfInBounds_toArray, List.set_cons_zero, List.set_cons_succ]
  refine wpAnyH_take (i := 20) (v := ?_) rfl (by kernel_rfl) (by kernel_rfl) (by kernel_rfl) (fun _ _ _ h => h) (Or.inl ⟨by rfl, ?_⟩) hS ?_
  rotate_left
  · intro W hW
    (try dsimp only at hW)
    go_simp
    try with_reducible rfl
  try simp only [Act.put, List.setIfInBounds_toArray, List.set_cons_zero, List.set_cons_succ]
  refine wpAnyH_ready (rs := [24]) (by kernel_rfl) (by simp) ?_
  refine AllReadyH.cons rfl (fun K' hK => ?_) AllReadyH.nil
  go_simp
  go_at_call 24
  with_reducible refine (CD.out _).mono ?_
  rintro e w7 ⟨rfl, hb⟩
  have hS2 := hS
  refine hK.out _ _ ⟨⟨(hb.cell hS2.1.2).trans hS2.1.1, Nat.lt_of_lt_of_le hS2.1.2 hb.size⟩, hS2.2.1.trans (hb.mono (Nat.le_of_lt hS2.2.2.2.2.2.2.2)), (hb.cell hS2.2.2.2.2.2.2.2).trans hS2.2.2.1, (hb.cell hS2.2.2.2.2.2.2.2).trans hS2.2.2.2.1, (hb.cell hS2.2.2.2.2.2.2.2).trans hS2.2.2.2.2.1, (hb.cell hS2.2.2.2.2.2.2.2).trans hS2.2.2.2.2.2.1, (hb.cell hS2.2.2.2.2.2.2.2).trans hS2.2.2.2.2.2.2.1, Nat.lt_of_lt_of_le hS2.2.2.2.2.2.2.2 hb.size⟩ (fun hS => ?_)
  clear hK K' hb hS2
  try simp only [Act.put, List.setIfInBounds_toArray, List.set_cons_zero, List.set_cons_succ]
  refine wpAnyH_take (i := 25) (v := ?_) rfl (by kernel_rfl) (by kernel_rfl) (by kernel_rfl) (fun _ _ _ h => h) (Or.inl ⟨by rfl, ?_⟩) hS ?_
  rotate_left
  · intro W hW
    (try dsimp only at hW)
    go_simp
    try with_reducible rfl
  try simp only [Act.put, List.setIfInBounds_toArray, List.set_cons_zero, List.set_cons_succ]
  refine wpAnyH_take (i := 26) (v := ?_) rfl (by kernel_rfl) (by kernel_rfl) (by kernel_rfl) (fun _ _ _ h => h) (Or.inl ⟨by rfl, ?_⟩) hS ?_
  rotate_left
  · intro W hW
    (try dsimp only at hW)
    go_simp
    try with_reducible rfl
  try simp only [Act.put, List.setIfInBounds_toArray, List.set_cons_zero, List.set_cons_succ]
  refine wpAnyH_done (by kernel_rfl) ?_ _
  simp only [List.getElem_toArray, List.getElem_cons_succ, List.getElem_cons_zero, Act.put, List.setIfInBounds_toArray, List.set_cons_zero, List.set_cons_succ]
  go_wp2
  go_ret
  exact ⟨by rw [← HRES.out]; first | rfl | simp, hS.2.1⟩

end Go.Proofs.YtkemoffagdilgaaDoor
