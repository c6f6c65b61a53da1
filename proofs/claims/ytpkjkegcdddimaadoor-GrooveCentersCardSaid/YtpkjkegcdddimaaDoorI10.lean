import Derived.Test.YtpkjkegcdddimaaDoorGN
import Derived.Test.YtpkjkegcdddimaaDoorGA
namespace Go.Proofs.YtpkjkegcdddimaaDoor
open Go.RowKit


set_option maxRecDepth 100000 in
set_option maxHeartbeats 4000000 in
theorem centers_wide (A : Option Addr) (n c : Nat) (rl rh xl xh yl yh : Int) (ps : List (Int × Int)) (cx cy : Int) (w : World) (hl : LaidSides w) (hr : RdP w A n ps) (hn : 22 < n) :
    Calls Tryd.prog 4 #[.agg #[.slice A n c, .int .i64 rl, .int .i64 rh, .int .i64 xl, .int .i64 xh, .int .i64 yl, .int .i64 yh], .agg #[.int .i64 cx, .int .i64 cy]] w fun e w' => e = .returned (.bool true) ∧ Below w.heap.size w w' := by
  obtain ⟨W1, hW1⟩ : ∃ W, (w.alloc (.cells #[.slice A n c, .int .i64 rl, .int .i64 rh, .int .i64 xl, .int .i64 xh, .int .i64 yl, .int .i64 yh] 39)).alloc (.cells #[.int .i64 cx, .int .i64 cy] 30) = W := ⟨_, rfl⟩
  have hb1 : Below w.heap.size w W1 := by rw [← hW1]; exact ((Below.refl _ _).alloc (Nat.le_refl _) _).alloc (by simp) _
  have k0 : Bk W1 w.heap.size 39 #[.slice A n c, .int .i64 rl, .int .i64 rh, .int .i64 xl, .int .i64 xh, .int .i64 yl, .int .i64 yh] := by rw [← hW1]; exact (Bk.new w 39 #[.slice A n c, .int .i64 rl, .int .i64 rh, .int .i64 xl, .int .i64 xh, .int .i64 yl, .int .i64 yh]).alloc _
  have k1 : Bk W1 (w.heap.size + 1) 30 #[.int .i64 cx, .int .i64 cy] := by
    rw [← hW1]
    have := Bk.new (w.alloc (.cells #[.slice A n c, .int .i64 rl, .int .i64 rh, .int .i64 xl, .int .i64 xh, .int .i64 yl, .int .i64 yh] 39)) 30 #[.int .i64 cx, .int .i64 cy]
    simpa using this
  have HK : Hid (∀ W, Below W1.heap.size W1 W → ((W.cell? ⟨w.heap.size, 0, none⟩ = some (.slice A n c) ∧ W.cell? ⟨w.heap.size, 1, none⟩ = some (.int .i64 rl) ∧ W.cell? ⟨w.heap.size, 2, none⟩ = some (.int .i64 rh) ∧ W.cell? ⟨w.heap.size, 3, none⟩ = some (.int .i64 xl) ∧ W.cell? ⟨w.heap.size, 4, none⟩ = some (.int .i64 xh) ∧ W.cell? ⟨w.heap.size, 5, none⟩ = some (.int .i64 yl) ∧ W.cell? ⟨w.heap.size, 6, none⟩ = some (.int .i64 yh)) ∧ W.cell? ⟨w.heap.size + 1, 0, none⟩ = some (.int .i64 cx) ∧ W.cell? ⟨w.heap.size + 1, 1, none⟩ = some (.int .i64 cy)) ∧ Below w.heap.size w W ∧ LaidSides W ∧ RdP W A n ps) := Lib.hid (fun W hb => by
    have h0 := k0.later hb
    have h1 := k1.later hb
    have hb2 := hb1.trans (hb.mono hb1.size)
    exact ⟨⟨⟨by rw [h0.cell]; rfl, by rw [h0.cell]; rfl, by rw [h0.cell]; rfl, by rw [h0.cell]; rfl, by rw [h0.cell]; rfl, by rw [h0.cell]; rfl, by rw [h0.cell]; rfl⟩, by rw [h1.cell]; rfl, by rw [h1.cell]; rfl⟩, hb2, hl.later hb2, hr.below hb2⟩)
  have hnI : (22 : Int) < (n : Int) := by omega
  clear hr hl hb1 k0 k1
  go_enter Tryd.func4, Tryd.ntmps4
  go_upto_region 1 with (fail)
  try rw [hW1]
  clear hW1
  obtain ⟨⟨c0, c1, c2, c3, c4, c5, c6⟩, d0, d1⟩ := (HK.out _ (Below.refl _ _)).1
  go_wp2_with fail
  refine (awake_any _ (HK.out _ (Below.refl _ _)).2.2.1).mono ?_
  rintro e w2 ⟨rfl, hb2⟩
  have HB2 : Hid (Below W1.heap.size W1 w2) := Lib.hid hb2
  clear hb2 c0 c1 c2 c3 c4 c5 c6 d0 d1
  obtain ⟨⟨c0, c1, c2, c3, c4, c5, c6⟩, d0, d1⟩ := (HK.out _ (HB2.out)).1
  go_wp2
  go_ret
  exact ⟨rfl, (HK.out _ HB2.out).2.1⟩

set_option maxRecDepth 100000 in
set_option maxHeartbeats 4000000 in
theorem centers_err (A : Option Addr) (n c : Nat) (rl rh xl xh yl yh : Int) (ps : List (Int × Int)) (cx cy : Int) (w : World) (hl : LaidSides w) (hr : RdP w A n ps) (hn : n ≤ 22) (D : Int) (hD : D ≠ 0)
    (CCP : Hid (∀ W, RdP W A n ps → Calls Tryd.prog 13 #[.agg #[.slice A n c, .int .i64 rl, .int .i64 rh, .int .i64 xl, .int .i64 xh, .int .i64 yl, .int .i64 yh]] W fun e w' => (∃ g cap, e = .returned (.agg #[.slice (some ⟨g, 0, none⟩) n cap, .int .i64 rl, .int .i64 rh, .int .i64 xl, .int .i64 xh, .int .i64 yl, .int .i64 yh]) ∧ RdR w' g n ps) ∧ Below W.heap.size W w'))
    (CCK : Hid (∀ g cap W, RdR W g n ps → Calls Tryd.prog 12 #[.agg #[.slice (some ⟨g, 0, none⟩) n cap, .int .i64 rl, .int .i64 rh, .int .i64 xl, .int .i64 xh, .int .i64 yl, .int .i64 yh], .agg #[.int .i64 cx, .int .i64 cy]] W fun e w' => e = .returned (.tuple #[.int .i64 0, .int .i64 D]) ∧ Below W.heap.size W w'))
    (CCT : Hid (∀ g cap W, RdR W g n ps → Calls Tryd.prog 14 #[.agg #[.slice (some ⟨g, 0, none⟩) n cap, .int .i64 rl, .int .i64 rh, .int .i64 xl, .int .i64 xh, .int .i64 yl, .int .i64 yh]] W fun e w' => e = .returned (.tuple #[.agg #[.int .i64 0, .int .i64 0, .int .i64 0, .int .i64 0, .int .i64 0, .int .i64 0], .int .i64 D]) ∧ Below W.heap.size W w'))
    (CER : Hid (∀ W, RdP W A n ps → Calls Tryd.prog 15 #[.agg #[.slice A n c, .int .i64 rl, .int .i64 rh, .int .i64 xl, .int .i64 xh, .int .i64 yl, .int .i64 yh]] W fun e w' => e = .returned (.int .i64 D) ∧ Below W.heap.size W w')) :
    Calls Tryd.prog 4 #[.agg #[.slice A n c, .int .i64 rl, .int .i64 rh, .int .i64 xl, .int .i64 xh, .int .i64 yl, .int .i64 yh], .agg #[.int .i64 cx, .int .i64 cy]] w fun e w' => e = .returned (.bool true) ∧ Below w.heap.size w w' := by
  obtain ⟨W1, hW1⟩ : ∃ W, (w.alloc (.cells #[.slice A n c, .int .i64 rl, .int .i64 rh, .int .i64 xl, .int .i64 xh, .int .i64 yl, .int .i64 yh] 39)).alloc (.cells #[.int .i64 cx, .int .i64 cy] 30) = W := ⟨_, rfl⟩
  have hb1 : Below w.heap.size w W1 := by rw [← hW1]; exact ((Below.refl _ _).alloc (Nat.le_refl _) _).alloc (by simp) _
  have k0 : Bk W1 w.heap.size 39 #[.slice A n c, .int .i64 rl, .int .i64 rh, .int .i64 xl, .int .i64 xh, .int .i64 yl, .int .i64 yh] := by rw [← hW1]; exact (Bk.new w 39 #[.slice A n c, .int .i64 rl, .int .i64 rh, .int .i64 xl, .int .i64 xh, .int .i64 yl, .int .i64 yh]).alloc _
  have k1 : Bk W1 (w.heap.size + 1) 30 #[.int .i64 cx, .int .i64 cy] := by
    rw [← hW1]
    have := Bk.new (w.alloc (.cells #[.slice A n c, .int .i64 rl, .int .i64 rh, .int .i64 xl, .int .i64 xh, .int .i64 yl, .int .i64 yh] 39)) 30 #[.int .i64 cx, .int .i64 cy]
    simpa using this
  have HK : Hid (∀ W, Below W1.heap.size W1 W → ((W.cell? ⟨w.heap.size, 0, none⟩ = some (.slice A n c) ∧ W.cell? ⟨w.heap.size, 1, none⟩ = some (.int .i64 rl) ∧ W.cell? ⟨w.heap.size, 2, none⟩ = some (.int .i64 rh) ∧ W.cell? ⟨w.heap.size, 3, none⟩ = some (.int .i64 xl) ∧ W.cell? ⟨w.heap.size, 4, none⟩ = some (.int .i64 xh) ∧ W.cell? ⟨w.heap.size, 5, none⟩ = some (.int .i64 yl) ∧ W.cell? ⟨w.heap.size, 6, none⟩ = some (.int .i64 yh)) ∧ W.cell? ⟨w.heap.size + 1, 0, none⟩ = some (.int .i64 cx) ∧ W.cell? ⟨w.heap.size + 1, 1, none⟩ = some (.int .i64 cy)) ∧ Below w.heap.size w W ∧ LaidSides W ∧ RdP W A n ps) := Lib.hid (fun W hb => by
    have h0 := k0.later hb
    have h1 := k1.later hb
    have hb2 := hb1.trans (hb.mono hb1.size)
    exact ⟨⟨⟨by rw [h0.cell]; rfl, by rw [h0.cell]; rfl, by rw [h0.cell]; rfl, by rw [h0.cell]; rfl, by rw [h0.cell]; rfl, by rw [h0.cell]; rfl, by rw [h0.cell]; rfl⟩, by rw [h1.cell]; rfl, by rw [h1.cell]; rfl⟩, hb2, hl.later hb2, hr.below hb2⟩)
  have hnI : ¬ (22 : Int) < (n : Int) := by omega
  have hDb : (D != 0) = true := by simpa using hD
  have hDD : (D == D) = true := by simp
  clear hD
  clear hr hl hb1 k0 k1
  go_enter Tryd.func4, Tryd.ntmps4
  go_upto_region 1 with (fail)
  try rw [hW1]
  clear hW1
  obtain ⟨⟨c0, c1, c2, c3, c4, c5, c6⟩, d0, d1⟩ := (HK.out _ (Below.refl _ _)).1
  go_wp2_with fail
  refine (awake_any _ (HK.out _ (Below.refl _ _)).2.2.1).mono ?_
  rintro e w2 ⟨rfl, hb2⟩
  have HB2 : Hid (Below W1.heap.size W1 w2) := Lib.hid hb2
  clear hb2 c0 c1 c2 c3 c4 c5 c6 d0 d1
  obtain ⟨⟨c0, c1, c2, c3, c4, c5, c6⟩, d0, d1⟩ := (HK.out _ (HB2.out)).1
  go_wp2_with fail
  refine wp_region_held_drew (S := (fun W : World => ((W.cell? ⟨w.heap.size, 0, none⟩ = some (.slice A n c) ∧ W.cell? ⟨w.heap.size, 1, none⟩ = some (.int .i64 rl) ∧ W.cell? ⟨w.heap.size, 2, none⟩ = some (.int .i64 rh) ∧ W.cell? ⟨w.heap.size, 3, none⟩ = some (.int .i64 xl) ∧ W.cell? ⟨w.heap.size, 4, none⟩ = some (.int .i64 xh) ∧ W.cell? ⟨w.heap.size, 5, none⟩ = some (.int .i64 yl) ∧ W.cell? ⟨w.heap.size, 6, none⟩ = some (.int .i64 yh)) ∧ W.cell? ⟨w.heap.size + 1, 0, none⟩ = some (.int .i64 cx) ∧ W.cell? ⟨w.heap.size + 1, 1, none⟩ = some (.int .i64 cy)))) (by kernel_rfl) ?_ ?_
  · exact (HK.out _ (HB2.out.drew)).1
  intro hHeld
  refine wpAnyH_take (i := 0) (v := ?_) rfl (by kernel_rfl) (by kernel_rfl) (by kernel_rfl) (fun _ _ _ h => h) (Or.inl ⟨by rfl, ?_⟩) (by assumption) ?_
  rotate_left
  · intro w hSw; (try dsimp only at hSw); go_simp; (try (with_reducible rfl))
  try simp only [List.getElem_toArray, List.getElem_cons_succ, List.getElem_cons_zero, Act.put, List.setIfInBounds_toArray, List.set_cons_zero, List.set_cons_succ]
  refine wpAnyH_take (i := 2) (v := ?_) rfl (by kernel_rfl) (by kernel_rfl) (by kernel_rfl) (fun _ _ _ h => h) (Or.inl ⟨by rfl, ?_⟩) (by assumption) ?_
  rotate_left
  · intro w hSw; (try dsimp only at hSw); go_simp; (try (with_reducible rfl))
  try simp only [List.getElem_toArray, List.getElem_cons_succ, List.getElem_cons_zero, Act.put, List.setIfInBounds_toArray, List.set_cons_zero, List.set_cons_succ]
  refine wpAnyH_ready (rs := [1]) (by kernel_rfl) (by simp) ?_
  refine AllReadyH.cons rfl (fun K hK => ?_) AllReadyH.nil
  go_simp
  go_at_call 13; refine (CCP.out _ (HK.out _ HB2.out.drew).2.2.2).mono ?_; rintro e wy ⟨⟨g, cap, rfl, hrr⟩, hb⟩
  have HBy := Lib.hid (HB2.out.drew.trans (hb.mono HB2.out.drew.size))
  have HRR := Lib.hid hrr
  clear hrr hb
  go_wp2_with fail
  refine hK.out _ _ ?_ (fun hHeld => ?_)
  · clear hK K; exact (HK.out _ HBy.out).1
  clear hK K
  try simp only [List.getElem_toArray, List.getElem_cons_succ, List.getElem_cons_zero, Act.put, List.setIfInBounds_toArray, List.set_cons_zero, List.set_cons_succ]
  refine wpAnyH_ready (rs := [3]) (by kernel_rfl) (by simp) ?_
  refine AllReadyH.cons rfl (fun K hK => ?_) AllReadyH.nil
  go_simp
  go_at_call 12; refine (CCK.out _ _ _ HRR.out).mono ?_; rintro e wz ⟨rfl, hb⟩
  have HBz := Lib.hid (HBy.out.trans (hb.mono HBy.out.size))
  clear hb
  go_wp2_with fail
  refine hK.out _ _ ?_ (fun hHeld => ?_)
  · clear hK K; exact (HK.out _ HBz.out).1
  clear hK K
  try simp only [List.getElem_toArray, List.getElem_cons_succ, List.getElem_cons_zero, Act.put, List.setIfInBounds_toArray, List.set_cons_zero, List.set_cons_succ]
  refine wpAnyH_take (i := 4) (v := ?_) rfl (by kernel_rfl) (by kernel_rfl) (by kernel_rfl) (fun _ _ _ h => h) (Or.inl ⟨by rfl, ?_⟩) (by assumption) ?_
  rotate_left
  · intro w hSw; (try dsimp only at hSw); go_simp; (try (with_reducible rfl))
  try simp only [List.getElem_toArray, List.getElem_cons_succ, List.getElem_cons_zero, Act.put, List.setIfInBounds_toArray, List.set_cons_zero, List.set_cons_succ]
  refine wpAnyH_take (i := 5) (v := ?_) rfl (by kernel_rfl) (by kernel_rfl) (by kernel_rfl) (fun _ _ _ h => h) (Or.inl ⟨by rfl, ?_⟩) (by assumption) ?_
  rotate_left
  · intro w hSw; (try dsimp only at hSw); go_simp; (try (with_reducible rfl))
  try simp only [List.getElem_toArray, List.getElem_cons_succ, List.getElem_cons_zero, Act.put, List.setIfInBounds_toArray, List.set_cons_zero, List.set_cons_succ]
  refine wpAnyH_take (i := 6) (v := ?_) rfl (by kernel_rfl) (by kernel_rfl) (by kernel_rfl) (fun _ _ _ h => h) (Or.inl ⟨by rfl, ?_⟩) (by assumption) ?_
  rotate_left
  · intro w hSw; (try dsimp only at hSw); go_simp; (try (with_reducible rfl))
  try simp only [List.getElem_toArray, List.getElem_cons_succ, List.getElem_cons_zero, Act.put, List.setIfInBounds_toArray, List.set_cons_zero, List.set_cons_succ]
  refine wpAnyH_take (i := 7) (v := ?_) rfl (by kernel_rfl) (by kernel_rfl) (by kernel_rfl) (fun _ _ _ h => h) (Or.inl ⟨by rfl, ?_⟩) (by assumption) ?_
  rotate_left
  · intro w hSw; (try dsimp only at hSw); go_simp; (try (with_reducible rfl))
  try simp only [List.getElem_toArray, List.getElem_cons_succ, List.getElem_cons_zero, Act.put, List.setIfInBounds_toArray, List.set_cons_zero, List.set_cons_succ]
  refine wpAnyH_take (i := 8) (v := ?_) rfl (by kernel_rfl) (by kernel_rfl) (by kernel_rfl) (fun _ _ _ h => h) (Or.inl ⟨by rfl, ?_⟩) (by assumption) ?_
  rotate_left
  · intro w hSw; (try dsimp only at hSw); go_simp; (try (with_reducible rfl))
  try simp only [List.getElem_toArray, List.getElem_cons_succ, List.getElem_cons_zero, Act.put, List.setIfInBounds_toArray, List.set_cons_zero, List.set_cons_succ]
  refine wpAnyH_done (by kernel_rfl) ?_ _
  obtain ⟨w3, hw3⟩ : ∃ W, W = wz := ⟨_, rfl⟩
  subst hw3
  have HB3 := Lib.hid HBz.out
  clear hHeld HBy HBz HRR HB2 c0 c1 c2 c3 c4 c5 c6 d0 d1
  obtain ⟨⟨c0, c1, c2, c3, c4, c5, c6⟩, d0, d1⟩ := (HK.out _ (HB3.out)).1
  go_wp2_with fail
  refine (CCP.out _ (HK.out _ HB3.out).2.2.2).mono ?_
  rintro e w4 ⟨⟨g4, cap4, rfl, hrr⟩, hb⟩
  have HRR := Lib.hid hrr
  have HB4 := Lib.hid (HB3.out.trans (hb.mono HB3.out.size))
  clear hrr hb HB3 c0 c1 c2 c3 c4 c5 c6 d0 d1
  go_wp2_with fail
  refine (CCT.out _ _ _ HRR.out).mono ?_
  rintro e w5 ⟨rfl, hb⟩
  have HB5 := Lib.hid (HB4.out.trans (hb.mono HB4.out.size))
  clear hb HB4 HRR
  go_upto_region 7 with (fail)
  obtain ⟨W7, hW7⟩ : ∃ W, w5.alloc (.cells #[.int .i64 0, .int .i64 0, .int .i64 0, .int .i64 0, .int .i64 0, .int .i64 0] 44) = W := ⟨_, rfl⟩
  have HX7 : Hid (Bk W7 w5.heap.size 44 #[.int .i64 0, .int .i64 0, .int .i64 0, .int .i64 0, .int .i64 0, .int .i64 0]) := Lib.hid (by rw [← hW7]; exact Bk.new _ _ _)
  have HB7 : Hid (Below W1.heap.size W1 W7) := Lib.hid (by rw [← hW7]; exact HB5.out.alloc HB5.out.size _)
  rw [hW7]
  obtain ⟨g7, hg7⟩ : ∃ g, w5.heap.size = g := ⟨_, rfl⟩
  rw [hg7] at HX7 ⊢
  clear hW7 hg7 HB5
  obtain ⟨⟨c0, c1, c2, c3, c4, c5, c6⟩, d0, d1⟩ := (HK.out _ (HB7.out)).1
  go_wp2_with fail
  refine (CER.out _ (HK.out _ HB7.out).2.2.2).mono ?_
  rintro e w8 ⟨rfl, hb⟩
  have HB8 := Lib.hid (HB7.out.trans (hb.mono HB7.out.size))
  have HX8 := Lib.hid (HX7.out.later hb)
  clear hb HB7 HX7 c0 c1 c2 c3 c4 c5 c6 d0 d1
  obtain ⟨⟨c0, c1, c2, c3, c4, c5, c6⟩, d0, d1⟩ := (HK.out _ (HB8.out)).1
  have x0 : w8.cell? ⟨g7, 0, none⟩ = some (.int .i64 0) := by rw [HX8.out.cell]; rfl
  have x1 : w8.cell? ⟨g7, 1, none⟩ = some (.int .i64 0) := by rw [HX8.out.cell]; rfl
  have x2 : w8.cell? ⟨g7, 2, none⟩ = some (.int .i64 0) := by rw [HX8.out.cell]; rfl
  have x3 : w8.cell? ⟨g7, 3, none⟩ = some (.int .i64 0) := by rw [HX8.out.cell]; rfl
  have x4 : w8.cell? ⟨g7, 4, none⟩ = some (.int .i64 0) := by rw [HX8.out.cell]; rfl
  have x5 : w8.cell? ⟨g7, 5, none⟩ = some (.int .i64 0) := by rw [HX8.out.cell]; rfl
  go_wp2
  go_ret
  exact ⟨rfl, (HK.out _ HB8.out).2.1⟩

set_option maxRecDepth 100000 in
set_option maxHeartbeats 4000000 in
theorem centers_found (A : Option Addr) (n c : Nat) (rl rh xl xh yl yh : Int) (ps : List (Int × Int)) (cx cy : Int) (w : World) (hl : LaidSides w) (hr : RdP w A n ps) (hn : n ≤ 22) (I E v0 v1 v2 v3 v4 v5 : Int)
    (CCP : Hid (∀ W, RdP W A n ps → Calls Tryd.prog 13 #[.agg #[.slice A n c, .int .i64 rl, .int .i64 rh, .int .i64 xl, .int .i64 xh, .int .i64 yl, .int .i64 yh]] W fun e w' => (∃ g cap, e = .returned (.agg #[.slice (some ⟨g, 0, none⟩) n cap, .int .i64 rl, .int .i64 rh, .int .i64 xl, .int .i64 xh, .int .i64 yl, .int .i64 yh]) ∧ RdR w' g n ps) ∧ Below W.heap.size W w'))
    (CCK : Hid (∀ g cap W, RdR W g n ps → Calls Tryd.prog 12 #[.agg #[.slice (some ⟨g, 0, none⟩) n cap, .int .i64 rl, .int .i64 rh, .int .i64 xl, .int .i64 xh, .int .i64 yl, .int .i64 yh], .agg #[.int .i64 cx, .int .i64 cy]] W fun e w' => e = .returned (.tuple #[.int .i64 I, .int .i64 E]) ∧ Below W.heap.size W w'))
    (CCT : Hid (∀ g cap W, RdR W g n ps → Calls Tryd.prog 14 #[.agg #[.slice (some ⟨g, 0, none⟩) n cap, .int .i64 rl, .int .i64 rh, .int .i64 xl, .int .i64 xh, .int .i64 yl, .int .i64 yh]] W fun e w' => e = .returned (.tuple #[.agg #[.int .i64 v0, .int .i64 v1, .int .i64 v2, .int .i64 v3, .int .i64 v4, .int .i64 v5], .int .i64 0]) ∧ Below W.heap.size W w'))
    (CER : Hid (∀ W, RdP W A n ps → Calls Tryd.prog 15 #[.agg #[.slice A n c, .int .i64 rl, .int .i64 rh, .int .i64 xl, .int .i64 xh, .int .i64 yl, .int .i64 yh]] W fun e w' => e = .returned (.int .i64 0) ∧ Below W.heap.size W w'))
    (RCK : Hid (∀ W, RdP W A n ps → Calls Tryd.prog 16 #[.agg #[.slice A n c, .int .i64 rl, .int .i64 rh, .int .i64 xl, .int .i64 xh, .int .i64 yl, .int .i64 yh], .agg #[.int .i64 cx, .int .i64 cy]] W fun e w' => e = .returned (.tuple #[.int .i64 I, .int .i64 E]) ∧ Below W.heap.size W w'))
    (RCT : Hid (∀ W, RdP W A n ps → Calls Tryd.prog 17 #[.agg #[.slice A n c, .int .i64 rl, .int .i64 rh, .int .i64 xl, .int .i64 xh, .int .i64 yl, .int .i64 yh]] W fun e w' => e = .returned (.tuple #[.agg #[.int .i64 v0, .int .i64 v1, .int .i64 v2, .int .i64 v3, .int .i64 v4, .int .i64 v5], .bool true]) ∧ Below W.heap.size W w')) :
    Calls Tryd.prog 4 #[.agg #[.slice A n c, .int .i64 rl, .int .i64 rh, .int .i64 xl, .int .i64 xh, .int .i64 yl, .int .i64 yh], .agg #[.int .i64 cx, .int .i64 cy]] w fun e w' => e = .returned (.bool true) ∧ Below w.heap.size w w' := by
  obtain ⟨W1, hW1⟩ : ∃ W, (w.alloc (.cells #[.slice A n c, .int .i64 rl, .int .i64 rh, .int .i64 xl, .int .i64 xh, .int .i64 yl, .int .i64 yh] 39)).alloc (.cells #[.int .i64 cx, .int .i64 cy] 30) = W := ⟨_, rfl⟩
  have hb1 : Below w.heap.size w W1 := by rw [← hW1]; exact ((Below.refl _ _).alloc (Nat.le_refl _) _).alloc (by simp) _
  have k0 : Bk W1 w.heap.size 39 #[.slice A n c, .int .i64 rl, .int .i64 rh, .int .i64 xl, .int .i64 xh, .int .i64 yl, .int .i64 yh] := by rw [← hW1]; exact (Bk.new w 39 #[.slice A n c, .int .i64 rl, .int .i64 rh, .int .i64 xl, .int .i64 xh, .int .i64 yl, .int .i64 yh]).alloc _
  have k1 : Bk W1 (w.heap.size + 1) 30 #[.int .i64 cx, .int .i64 cy] := by
    rw [← hW1]
    have := Bk.new (w.alloc (.cells #[.slice A n c, .int .i64 rl, .int .i64 rh, .int .i64 xl, .int .i64 xh, .int .i64 yl, .int .i64 yh] 39)) 30 #[.int .i64 cx, .int .i64 cy]
    simpa using this
  have HK : Hid (∀ W, Below W1.heap.size W1 W → ((W.cell? ⟨w.heap.size, 0, none⟩ = some (.slice A n c) ∧ W.cell? ⟨w.heap.size, 1, none⟩ = some (.int .i64 rl) ∧ W.cell? ⟨w.heap.size, 2, none⟩ = some (.int .i64 rh) ∧ W.cell? ⟨w.heap.size, 3, none⟩ = some (.int .i64 xl) ∧ W.cell? ⟨w.heap.size, 4, none⟩ = some (.int .i64 xh) ∧ W.cell? ⟨w.heap.size, 5, none⟩ = some (.int .i64 yl) ∧ W.cell? ⟨w.heap.size, 6, none⟩ = some (.int .i64 yh)) ∧ W.cell? ⟨w.heap.size + 1, 0, none⟩ = some (.int .i64 cx) ∧ W.cell? ⟨w.heap.size + 1, 1, none⟩ = some (.int .i64 cy)) ∧ Below w.heap.size w W ∧ LaidSides W ∧ RdP W A n ps) := Lib.hid (fun W hb => by
    have h0 := k0.later hb
    have h1 := k1.later hb
    have hb2 := hb1.trans (hb.mono hb1.size)
    exact ⟨⟨⟨by rw [h0.cell]; rfl, by rw [h0.cell]; rfl, by rw [h0.cell]; rfl, by rw [h0.cell]; rfl, by rw [h0.cell]; rfl, by rw [h0.cell]; rfl, by rw [h0.cell]; rfl⟩, by rw [h1.cell]; rfl, by rw [h1.cell]; rfl⟩, hb2, hl.later hb2, hr.below hb2⟩)
  have hnI : ¬ (22 : Int) < (n : Int) := by omega
  have hEE : (E != E) = false := bne_self_eq_false' _
  have hII : (I != I) = false := bne_self_eq_false' _
  have hv0 : (v0 == v0) = true := by simp
  have hv1 : (v1 == v1) = true := by simp
  have hv2 : (v2 == v2) = true := by simp
  have hv3 : (v3 == v3) = true := by simp
  have hv4 : (v4 == v4) = true := by simp
  have hv5 : (v5 == v5) = true := by simp
  clear hr hl hb1 k0 k1
  go_enter Tryd.func4, Tryd.ntmps4
  go_upto_region 1 with (fail)
  try rw [hW1]
  clear hW1
  obtain ⟨⟨c0, c1, c2, c3, c4, c5, c6⟩, d0, d1⟩ := (HK.out _ (Below.refl _ _)).1
  go_wp2_with fail
  refine (awake_any _ (HK.out _ (Below.refl _ _)).2.2.1).mono ?_
  rintro e w2 ⟨rfl, hb2⟩
  have HB2 : Hid (Below W1.heap.size W1 w2) := Lib.hid hb2
  clear hb2 c0 c1 c2 c3 c4 c5 c6 d0 d1
  obtain ⟨⟨c0, c1, c2, c3, c4, c5, c6⟩, d0, d1⟩ := (HK.out _ (HB2.out)).1
  go_wp2_with fail
  refine wp_region_held_drew (S := (fun W : World => ((W.cell? ⟨w.heap.size, 0, none⟩ = some (.slice A n c) ∧ W.cell? ⟨w.heap.size, 1, none⟩ = some (.int .i64 rl) ∧ W.cell? ⟨w.heap.size, 2, none⟩ = some (.int .i64 rh) ∧ W.cell? ⟨w.heap.size, 3, none⟩ = some (.int .i64 xl) ∧ W.cell? ⟨w.heap.size, 4, none⟩ = some (.int .i64 xh) ∧ W.cell? ⟨w.heap.size, 5, none⟩ = some (.int .i64 yl) ∧ W.cell? ⟨w.heap.size, 6, none⟩ = some (.int .i64 yh)) ∧ W.cell? ⟨w.heap.size + 1, 0, none⟩ = some (.int .i64 cx) ∧ W.cell? ⟨w.heap.size + 1, 1, none⟩ = some (.int .i64 cy)))) (by kernel_rfl) ?_ ?_
  · exact (HK.out _ (HB2.out.drew)).1
  intro hHeld
  refine wpAnyH_take (i := 0) (v := ?_) rfl (by kernel_rfl) (by kernel_rfl) (by kernel_rfl) (fun _ _ _ h => h) (Or.inl ⟨by rfl, ?_⟩) (by assumption) ?_
  rotate_left
  · intro w hSw; (try dsimp only at hSw); go_simp; (try (with_reducible rfl))
  try simp only [List.getElem_toArray, List.getElem_cons_succ, List.getElem_cons_zero, Act.put, List.setIfInBounds_toArray, List.set_cons_zero, List.set_cons_succ]
  refine wpAnyH_take (i := 2) (v := ?_) rfl (by kernel_rfl) (by kernel_rfl) (by kernel_rfl) (fun _ _ _ h => h) (Or.inl ⟨by rfl, ?_⟩) (by assumption) ?_
  rotate_left
  · intro w hSw; (try dsimp only at hSw); go_simp; (try (with_reducible rfl))
  try simp only [List.getElem_toArray, List.getElem_cons_succ, List.getElem_cons_zero, Act.put, List.setIfInBounds_toArray, List.set_cons_zero, List.set_cons_succ]
  refine wpAnyH_ready (rs := [1]) (by kernel_rfl) (by simp) ?_
  refine AllReadyH.cons rfl (fun K hK => ?_) AllReadyH.nil
  go_simp
  go_at_call 13; refine (CCP.out _ (HK.out _ HB2.out.drew).2.2.2).mono ?_; rintro e wy ⟨⟨g, cap, rfl, hrr⟩, hb⟩
  have HBy := Lib.hid (HB2.out.drew.trans (hb.mono HB2.out.drew.size))
  have HRR := Lib.hid hrr
  clear hrr hb
  go_wp2_with fail
  refine hK.out _ _ ?_ (fun hHeld => ?_)
  · clear hK K; exact (HK.out _ HBy.out).1
  clear hK K
  try simp only [List.getElem_toArray, List.getElem_cons_succ, List.getElem_cons_zero, Act.put, List.setIfInBounds_toArray, List.set_cons_zero, List.set_cons_succ]
  refine wpAnyH_ready (rs := [3]) (by kernel_rfl) (by simp) ?_
  refine AllReadyH.cons rfl (fun K hK => ?_) AllReadyH.nil
  go_simp
  go_at_call 12; refine (CCK.out _ _ _ HRR.out).mono ?_; rintro e wz ⟨rfl, hb⟩
  have HBz := Lib.hid (HBy.out.trans (hb.mono HBy.out.size))
  clear hb
  go_wp2_with fail
  refine hK.out _ _ ?_ (fun hHeld => ?_)
  · clear hK K; exact (HK.out _ HBz.out).1
  clear hK K
  try simp only [List.getElem_toArray, List.getElem_cons_succ, List.getElem_cons_zero, Act.put, List.setIfInBounds_toArray, List.set_cons_zero, List.set_cons_succ]
  refine wpAnyH_take (i := 4) (v := ?_) rfl (by kernel_rfl) (by kernel_rfl) (by kernel_rfl) (fun _ _ _ h => h) (Or.inl ⟨by rfl, ?_⟩) (by assumption) ?_
  rotate_left
  · intro w hSw; (try dsimp only at hSw); go_simp; (try (with_reducible rfl))
  try simp only [List.getElem_toArray, List.getElem_cons_succ, List.getElem_cons_zero, Act.put, List.setIfInBounds_toArray, List.set_cons_zero, List.set_cons_succ]
  refine wpAnyH_take (i := 5) (v := ?_) rfl (by kernel_rfl) (by kernel_rfl) (by kernel_rfl) (fun _ _ _ h => h) (Or.inl ⟨by rfl, ?_⟩) (by assumption) ?_
  rotate_left
  · intro w hSw; (try dsimp only at hSw); go_simp; (try (with_reducible rfl))
  try simp only [List.getElem_toArray, List.getElem_cons_succ, List.getElem_cons_zero, Act.put, List.setIfInBounds_toArray, List.set_cons_zero, List.set_cons_succ]
  refine wpAnyH_take (i := 6) (v := ?_) rfl (by kernel_rfl) (by kernel_rfl) (by kernel_rfl) (fun _ _ _ h => h) (Or.inl ⟨by rfl, ?_⟩) (by assumption) ?_
  rotate_left
  · intro w hSw; (try dsimp only at hSw); go_simp; (try (with_reducible rfl))
  try simp only [List.getElem_toArray, List.getElem_cons_succ, List.getElem_cons_zero, Act.put, List.setIfInBounds_toArray, List.set_cons_zero, List.set_cons_succ]
  refine wpAnyH_take (i := 7) (v := ?_) rfl (by kernel_rfl) (by kernel_rfl) (by kernel_rfl) (fun _ _ _ h => h) (Or.inl ⟨by rfl, ?_⟩) (by assumption) ?_
  rotate_left
  · intro w hSw; (try dsimp only at hSw); go_simp; (try (with_reducible rfl))
  try simp only [List.getElem_toArray, List.getElem_cons_succ, List.getElem_cons_zero, Act.put, List.setIfInBounds_toArray, List.set_cons_zero, List.set_cons_succ]
  refine wpAnyH_take (i := 8) (v := ?_) rfl (by kernel_rfl) (by kernel_rfl) (by kernel_rfl) (fun _ _ _ h => h) (Or.inl ⟨by rfl, ?_⟩) (by assumption) ?_
  rotate_left
  · intro w hSw; (try dsimp only at hSw); go_simp; (try (with_reducible rfl))
  try simp only [List.getElem_toArray, List.getElem_cons_succ, List.getElem_cons_zero, Act.put, List.setIfInBounds_toArray, List.set_cons_zero, List.set_cons_succ]
  refine wpAnyH_done (by kernel_rfl) ?_ _
  obtain ⟨w3, hw3⟩ : ∃ W, W = wz := ⟨_, rfl⟩
  subst hw3
  have HB3 := Lib.hid HBz.out
  clear hHeld HBy HBz HRR HB2 c0 c1 c2 c3 c4 c5 c6 d0 d1
  obtain ⟨⟨c0, c1, c2, c3, c4, c5, c6⟩, d0, d1⟩ := (HK.out _ (HB3.out)).1
  go_wp2_with fail
  refine (CCP.out _ (HK.out _ HB3.out).2.2.2).mono ?_
  rintro e w4 ⟨⟨g4, cap4, rfl, hrr⟩, hb⟩
  have HRR := Lib.hid hrr
  have HB4 := Lib.hid (HB3.out.trans (hb.mono HB3.out.size))
  clear hrr hb HB3 c0 c1 c2 c3 c4 c5 c6 d0 d1
  go_wp2_with fail
  refine (CCT.out _ _ _ HRR.out).mono ?_
  rintro e w5 ⟨rfl, hb⟩
  have HB5 := Lib.hid (HB4.out.trans (hb.mono HB4.out.size))
  clear hb HB4 HRR
  go_upto_region 7 with (fail)
  obtain ⟨W7, hW7⟩ : ∃ W, w5.alloc (.cells #[.int .i64 v0, .int .i64 v1, .int .i64 v2, .int .i64 v3, .int .i64 v4, .int .i64 v5] 44) = W := ⟨_, rfl⟩
  have HX7 : Hid (Bk W7 w5.heap.size 44 #[.int .i64 v0, .int .i64 v1, .int .i64 v2, .int .i64 v3, .int .i64 v4, .int .i64 v5]) := Lib.hid (by rw [← hW7]; exact Bk.new _ _ _)
  have HB7 : Hid (Below W1.heap.size W1 W7) := Lib.hid (by rw [← hW7]; exact HB5.out.alloc HB5.out.size _)
  rw [hW7]
  obtain ⟨g7, hg7⟩ : ∃ g, w5.heap.size = g := ⟨_, rfl⟩
  rw [hg7] at HX7 ⊢
  clear hW7 hg7 HB5
  obtain ⟨⟨c0, c1, c2, c3, c4, c5, c6⟩, d0, d1⟩ := (HK.out _ (HB7.out)).1
  go_wp2_with fail
  refine (CER.out _ (HK.out _ HB7.out).2.2.2).mono ?_
  rintro e w8 ⟨rfl, hb⟩
  have HB8 := Lib.hid (HB7.out.trans (hb.mono HB7.out.size))
  have HX8 := Lib.hid (HX7.out.later hb)
  clear hb HB7 HX7 c0 c1 c2 c3 c4 c5 c6 d0 d1
  obtain ⟨⟨c0, c1, c2, c3, c4, c5, c6⟩, d0, d1⟩ := (HK.out _ (HB8.out)).1
  go_wp2_with fail
  refine (RCK.out _ (HK.out _ HB8.out).2.2.2).mono ?_
  rintro e w9 ⟨rfl, hb⟩
  have HB9 := Lib.hid (HB8.out.trans (hb.mono HB8.out.size))
  have HX9 := Lib.hid (HX8.out.later hb)
  clear hb HB8 HX8 c0 c1 c2 c3 c4 c5 c6 d0 d1
  obtain ⟨⟨c0, c1, c2, c3, c4, c5, c6⟩, d0, d1⟩ := (HK.out _ (HB9.out)).1
  go_wp2_with fail
  refine (RCT.out _ (HK.out _ HB9.out).2.2.2).mono ?_
  rintro e w10 ⟨rfl, hb⟩
  have HB10 := Lib.hid (HB9.out.trans (hb.mono HB9.out.size))
  have HX10 := Lib.hid (HX9.out.later hb)
  clear hb HB9 HX9 c0 c1 c2 c3 c4 c5 c6 d0 d1
  go_upto_region 14 with (fail)
  obtain ⟨W14, hW14⟩ : ∃ W, w10.alloc (.cells #[.int .i64 v0, .int .i64 v1, .int .i64 v2, .int .i64 v3, .int .i64 v4, .int .i64 v5] 44) = W := ⟨_, rfl⟩
  have HY14 : Hid (Bk W14 w10.heap.size 44 #[.int .i64 v0, .int .i64 v1, .int .i64 v2, .int .i64 v3, .int .i64 v4, .int .i64 v5]) := Lib.hid (by rw [← hW14]; exact Bk.new _ _ _)
  have HX14 : Hid (Bk W14 g7 44 #[.int .i64 v0, .int .i64 v1, .int .i64 v2, .int .i64 v3, .int .i64 v4, .int .i64 v5]) := Lib.hid (by rw [← hW14]; exact HX10.out.alloc _)
  have HB14 : Hid (Below W1.heap.size W1 W14) := Lib.hid (by rw [← hW14]; exact HB10.out.alloc HB10.out.size _)
  rw [hW14]
  obtain ⟨g14, hg14⟩ : ∃ g, w10.heap.size = g := ⟨_, rfl⟩
  rw [hg14] at HY14 ⊢
  clear hW14 hg14 HB10 HX10
  have x0 : W14.cell? ⟨g7, 0, none⟩ = some (.int .i64 v0) := by rw [HX14.out.cell]; rfl
  have x1 : W14.cell? ⟨g7, 1, none⟩ = some (.int .i64 v1) := by rw [HX14.out.cell]; rfl
  have x2 : W14.cell? ⟨g7, 2, none⟩ = some (.int .i64 v2) := by rw [HX14.out.cell]; rfl
  have x3 : W14.cell? ⟨g7, 3, none⟩ = some (.int .i64 v3) := by rw [HX14.out.cell]; rfl
  have x4 : W14.cell? ⟨g7, 4, none⟩ = some (.int .i64 v4) := by rw [HX14.out.cell]; rfl
  have x5 : W14.cell? ⟨g7, 5, none⟩ = some (.int .i64 v5) := by rw [HX14.out.cell]; rfl
  have y0 : W14.cell? ⟨g14, 0, none⟩ = some (.int .i64 v0) := by rw [HY14.out.cell]; rfl
  have y1 : W14.cell? ⟨g14, 1, none⟩ = some (.int .i64 v1) := by rw [HY14.out.cell]; rfl
  have y2 : W14.cell? ⟨g14, 2, none⟩ = some (.int .i64 v2) := by rw [HY14.out.cell]; rfl
  have y3 : W14.cell? ⟨g14, 3, none⟩ = some (.int .i64 v3) := by rw [HY14.out.cell]; rfl
  have y4 : W14.cell? ⟨g14, 4, none⟩ = some (.int .i64 v4) := by rw [HY14.out.cell]; rfl
  have y5 : W14.cell? ⟨g14, 5, none⟩ = some (.int .i64 v5) := by rw [HY14.out.cell]; rfl
  go_wp2
  go_ret
  exact ⟨rfl, (HK.out _ HB14.out).2.1⟩

set_option maxRecDepth 100000 in
set_option maxHeartbeats 4000000 in
theorem centers_none (A : Option Addr) (n c : Nat) (rl rh xl xh yl yh : Int) (ps : List (Int × Int)) (cx cy : Int) (w : World) (hl : LaidSides w) (hr : RdP w A n ps) (hn : n ≤ 22) (I E : Int)
    (CCP : Hid (∀ W, RdP W A n ps → Calls Tryd.prog 13 #[.agg #[.slice A n c, .int .i64 rl, .int .i64 rh, .int .i64 xl, .int .i64 xh, .int .i64 yl, .int .i64 yh]] W fun e w' => (∃ g cap, e = .returned (.agg #[.slice (some ⟨g, 0, none⟩) n cap, .int .i64 rl, .int .i64 rh, .int .i64 xl, .int .i64 xh, .int .i64 yl, .int .i64 yh]) ∧ RdR w' g n ps) ∧ Below W.heap.size W w'))
    (CCK : Hid (∀ g cap W, RdR W g n ps → Calls Tryd.prog 12 #[.agg #[.slice (some ⟨g, 0, none⟩) n cap, .int .i64 rl, .int .i64 rh, .int .i64 xl, .int .i64 xh, .int .i64 yl, .int .i64 yh], .agg #[.int .i64 cx, .int .i64 cy]] W fun e w' => e = .returned (.tuple #[.int .i64 I, .int .i64 E]) ∧ Below W.heap.size W w'))
    (CCT : Hid (∀ g cap W, RdR W g n ps → Calls Tryd.prog 14 #[.agg #[.slice (some ⟨g, 0, none⟩) n cap, .int .i64 rl, .int .i64 rh, .int .i64 xl, .int .i64 xh, .int .i64 yl, .int .i64 yh]] W fun e w' => e = .returned (.tuple #[.agg #[.int .i64 0, .int .i64 0, .int .i64 0, .int .i64 0, .int .i64 0, .int .i64 0], .int .i64 12]) ∧ Below W.heap.size W w'))
    (CER : Hid (∀ W, RdP W A n ps → Calls Tryd.prog 15 #[.agg #[.slice A n c, .int .i64 rl, .int .i64 rh, .int .i64 xl, .int .i64 xh, .int .i64 yl, .int .i64 yh]] W fun e w' => e = .returned (.int .i64 0) ∧ Below W.heap.size W w'))
    (RCK : Hid (∀ W, RdP W A n ps → Calls Tryd.prog 16 #[.agg #[.slice A n c, .int .i64 rl, .int .i64 rh, .int .i64 xl, .int .i64 xh, .int .i64 yl, .int .i64 yh], .agg #[.int .i64 cx, .int .i64 cy]] W fun e w' => e = .returned (.tuple #[.int .i64 I, .int .i64 E]) ∧ Below W.heap.size W w'))
    (RCT : Hid (∀ W, RdP W A n ps → Calls Tryd.prog 17 #[.agg #[.slice A n c, .int .i64 rl, .int .i64 rh, .int .i64 xl, .int .i64 xh, .int .i64 yl, .int .i64 yh]] W fun e w' => e = .returned (.tuple #[.agg #[.int .i64 0, .int .i64 0, .int .i64 0, .int .i64 0, .int .i64 0, .int .i64 0], .bool false]) ∧ Below W.heap.size W w')) :
    Calls Tryd.prog 4 #[.agg #[.slice A n c, .int .i64 rl, .int .i64 rh, .int .i64 xl, .int .i64 xh, .int .i64 yl, .int .i64 yh], .agg #[.int .i64 cx, .int .i64 cy]] w fun e w' => e = .returned (.bool true) ∧ Below w.heap.size w w' := by
  obtain ⟨W1, hW1⟩ : ∃ W, (w.alloc (.cells #[.slice A n c, .int .i64 rl, .int .i64 rh, .int .i64 xl, .int .i64 xh, .int .i64 yl, .int .i64 yh] 39)).alloc (.cells #[.int .i64 cx, .int .i64 cy] 30) = W := ⟨_, rfl⟩
  have hb1 : Below w.heap.size w W1 := by rw [← hW1]; exact ((Below.refl _ _).alloc (Nat.le_refl _) _).alloc (by simp) _
  have k0 : Bk W1 w.heap.size 39 #[.slice A n c, .int .i64 rl, .int .i64 rh, .int .i64 xl, .int .i64 xh, .int .i64 yl, .int .i64 yh] := by rw [← hW1]; exact (Bk.new w 39 #[.slice A n c, .int .i64 rl, .int .i64 rh, .int .i64 xl, .int .i64 xh, .int .i64 yl, .int .i64 yh]).alloc _
  have k1 : Bk W1 (w.heap.size + 1) 30 #[.int .i64 cx, .int .i64 cy] := by
    rw [← hW1]
    have := Bk.new (w.alloc (.cells #[.slice A n c, .int .i64 rl, .int .i64 rh, .int .i64 xl, .int .i64 xh, .int .i64 yl, .int .i64 yh] 39)) 30 #[.int .i64 cx, .int .i64 cy]
    simpa using this
  have HK : Hid (∀ W, Below W1.heap.size W1 W → ((W.cell? ⟨w.heap.size, 0, none⟩ = some (.slice A n c) ∧ W.cell? ⟨w.heap.size, 1, none⟩ = some (.int .i64 rl) ∧ W.cell? ⟨w.heap.size, 2, none⟩ = some (.int .i64 rh) ∧ W.cell? ⟨w.heap.size, 3, none⟩ = some (.int .i64 xl) ∧ W.cell? ⟨w.heap.size, 4, none⟩ = some (.int .i64 xh) ∧ W.cell? ⟨w.heap.size, 5, none⟩ = some (.int .i64 yl) ∧ W.cell? ⟨w.heap.size, 6, none⟩ = some (.int .i64 yh)) ∧ W.cell? ⟨w.heap.size + 1, 0, none⟩ = some (.int .i64 cx) ∧ W.cell? ⟨w.heap.size + 1, 1, none⟩ = some (.int .i64 cy)) ∧ Below w.heap.size w W ∧ LaidSides W ∧ RdP W A n ps) := Lib.hid (fun W hb => by
    have h0 := k0.later hb
    have h1 := k1.later hb
    have hb2 := hb1.trans (hb.mono hb1.size)
    exact ⟨⟨⟨by rw [h0.cell]; rfl, by rw [h0.cell]; rfl, by rw [h0.cell]; rfl, by rw [h0.cell]; rfl, by rw [h0.cell]; rfl, by rw [h0.cell]; rfl, by rw [h0.cell]; rfl⟩, by rw [h1.cell]; rfl, by rw [h1.cell]; rfl⟩, hb2, hl.later hb2, hr.below hb2⟩)
  have hnI : ¬ (22 : Int) < (n : Int) := by omega
  have hEE : (E != E) = false := bne_self_eq_false' _
  have hII : (I != I) = false := bne_self_eq_false' _
  clear hr hl hb1 k0 k1
  go_enter Tryd.func4, Tryd.ntmps4
  go_upto_region 1 with (fail)
  try rw [hW1]
  clear hW1
  obtain ⟨⟨c0, c1, c2, c3, c4, c5, c6⟩, d0, d1⟩ := (HK.out _ (Below.refl _ _)).1
  go_wp2_with fail
  refine (awake_any _ (HK.out _ (Below.refl _ _)).2.2.1).mono ?_
  rintro e w2 ⟨rfl, hb2⟩
  have HB2 : Hid (Below W1.heap.size W1 w2) := Lib.hid hb2
  clear hb2 c0 c1 c2 c3 c4 c5 c6 d0 d1
  obtain ⟨⟨c0, c1, c2, c3, c4, c5, c6⟩, d0, d1⟩ := (HK.out _ (HB2.out)).1
  go_wp2_with fail
  refine wp_region_held_drew (S := (fun W : World => ((W.cell? ⟨w.heap.size, 0, none⟩ = some (.slice A n c) ∧ W.cell? ⟨w.heap.size, 1, none⟩ = some (.int .i64 rl) ∧ W.cell? ⟨w.heap.size, 2, none⟩ = some (.int .i64 rh) ∧ W.cell? ⟨w.heap.size, 3, none⟩ = some (.int .i64 xl) ∧ W.cell? ⟨w.heap.size, 4, none⟩ = some (.int .i64 xh) ∧ W.cell? ⟨w.heap.size, 5, none⟩ = some (.int .i64 yl) ∧ W.cell? ⟨w.heap.size, 6, none⟩ = some (.int .i64 yh)) ∧ W.cell? ⟨w.heap.size + 1, 0, none⟩ = some (.int .i64 cx) ∧ W.cell? ⟨w.heap.size + 1, 1, none⟩ = some (.int .i64 cy)))) (by kernel_rfl) ?_ ?_
  · exact (HK.out _ (HB2.out.drew)).1
  intro hHeld
  refine wpAnyH_take (i := 0) (v := ?_) rfl (by kernel_rfl) (by kernel_rfl) (by kernel_rfl) (fun _ _ _ h => h) (Or.inl ⟨by rfl, ?_⟩) (by assumption) ?_
  rotate_left
  · intro w hSw; (try dsimp only at hSw); go_simp; (try (with_reducible rfl))
  try simp only [List.getElem_toArray, List.getElem_cons_succ, List.getElem_cons_zero, Act.put, List.setIfInBounds_toArray, List.set_cons_zero, List.set_cons_succ]
  refine wpAnyH_take (i := 2) (v := ?_) rfl (by kernel_rfl) (by kernel_rfl) (by kernel_rfl) (fun _ _ _ h => h) (Or.inl ⟨by rfl, ?_⟩) (by assumption) ?_
  rotate_left
  · intro w hSw; (try dsimp only at hSw); go_simp; (try (with_reducible rfl))
  try simp only [List.getElem_toArray, List.getElem_cons_succ, List.getElem_cons_zero, Act.put, List.setIfInBounds_toArray, List.set_cons_zero, List.set_cons_succ]
  refine wpAnyH_ready (rs := [1]) (by kernel_rfl) (by simp) ?_
  refine AllReadyH.cons rfl (fun K hK => ?_) AllReadyH.nil
  go_simp
  go_at_call 13; refine (CCP.out _ (HK.out _ HB2.out.drew).2.2.2).mono ?_; rintro e wy ⟨⟨g, cap, rfl, hrr⟩, hb⟩
  have HBy := Lib.hid (HB2.out.drew.trans (hb.mono HB2.out.drew.size))
  have HRR := Lib.hid hrr
  clear hrr hb
  go_wp2_with fail
  refine hK.out _ _ ?_ (fun hHeld => ?_)
  · clear hK K; exact (HK.out _ HBy.out).1
  clear hK K
  try simp only [List.getElem_toArray, List.getElem_cons_succ, List.getElem_cons_zero, Act.put, List.setIfInBounds_toArray, List.set_cons_zero, List.set_cons_succ]
  refine wpAnyH_ready (rs := [3]) (by kernel_rfl) (by simp) ?_
  refine AllReadyH.cons rfl (fun K hK => ?_) AllReadyH.nil
  go_simp
  go_at_call 12; refine (CCK.out _ _ _ HRR.out).mono ?_; rintro e wz ⟨rfl, hb⟩
  have HBz := Lib.hid (HBy.out.trans (hb.mono HBy.out.size))
  clear hb
  go_wp2_with fail
  refine hK.out _ _ ?_ (fun hHeld => ?_)
  · clear hK K; exact (HK.out _ HBz.out).1
  clear hK K
  try simp only [List.getElem_toArray, List.getElem_cons_succ, List.getElem_cons_zero, Act.put, List.setIfInBounds_toArray, List.set_cons_zero, List.set_cons_succ]
  refine wpAnyH_take (i := 4) (v := ?_) rfl (by kernel_rfl) (by kernel_rfl) (by kernel_rfl) (fun _ _ _ h => h) (Or.inl ⟨by rfl, ?_⟩) (by assumption) ?_
  rotate_left
  · intro w hSw; (try dsimp only at hSw); go_simp; (try (with_reducible rfl))
  try simp only [List.getElem_toArray, List.getElem_cons_succ, List.getElem_cons_zero, Act.put, List.setIfInBounds_toArray, List.set_cons_zero, List.set_cons_succ]
  refine wpAnyH_take (i := 5) (v := ?_) rfl (by kernel_rfl) (by kernel_rfl) (by kernel_rfl) (fun _ _ _ h => h) (Or.inl ⟨by rfl, ?_⟩) (by assumption) ?_
  rotate_left
  · intro w hSw; (try dsimp only at hSw); go_simp; (try (with_reducible rfl))
  try simp only [List.getElem_toArray, List.getElem_cons_succ, List.getElem_cons_zero, Act.put, List.setIfInBounds_toArray, List.set_cons_zero, List.set_cons_succ]
  refine wpAnyH_take (i := 6) (v := ?_) rfl (by kernel_rfl) (by kernel_rfl) (by kernel_rfl) (fun _ _ _ h => h) (Or.inl ⟨by rfl, ?_⟩) (by assumption) ?_
  rotate_left
  · intro w hSw; (try dsimp only at hSw); go_simp; (try (with_reducible rfl))
  try simp only [List.getElem_toArray, List.getElem_cons_succ, List.getElem_cons_zero, Act.put, List.setIfInBounds_toArray, List.set_cons_zero, List.set_cons_succ]
  refine wpAnyH_take (i := 7) (v := ?_) rfl (by kernel_rfl) (by kernel_rfl) (by kernel_rfl) (fun _ _ _ h => h) (Or.inl ⟨by rfl, ?_⟩) (by assumption) ?_
  rotate_left
  · intro w hSw; (try dsimp only at hSw); go_simp; (try (with_reducible rfl))
  try simp only [List.getElem_toArray, List.getElem_cons_succ, List.getElem_cons_zero, Act.put, List.setIfInBounds_toArray, List.set_cons_zero, List.set_cons_succ]
  refine wpAnyH_take (i := 8) (v := ?_) rfl (by kernel_rfl) (by kernel_rfl) (by kernel_rfl) (fun _ _ _ h => h) (Or.inl ⟨by rfl, ?_⟩) (by assumption) ?_
  rotate_left
  · intro w hSw; (try dsimp only at hSw); go_simp; (try (with_reducible rfl))
  try simp only [List.getElem_toArray, List.getElem_cons_succ, List.getElem_cons_zero, Act.put, List.setIfInBounds_toArray, List.set_cons_zero, List.set_cons_succ]
  refine wpAnyH_done (by kernel_rfl) ?_ _
  obtain ⟨w3, hw3⟩ : ∃ W, W = wz := ⟨_, rfl⟩
  subst hw3
  have HB3 := Lib.hid HBz.out
  clear hHeld HBy HBz HRR HB2 c0 c1 c2 c3 c4 c5 c6 d0 d1
  obtain ⟨⟨c0, c1, c2, c3, c4, c5, c6⟩, d0, d1⟩ := (HK.out _ (HB3.out)).1
  go_wp2_with fail
  refine (CCP.out _ (HK.out _ HB3.out).2.2.2).mono ?_
  rintro e w4 ⟨⟨g4, cap4, rfl, hrr⟩, hb⟩
  have HRR := Lib.hid hrr
  have HB4 := Lib.hid (HB3.out.trans (hb.mono HB3.out.size))
  clear hrr hb HB3 c0 c1 c2 c3 c4 c5 c6 d0 d1
  go_wp2_with fail
  refine (CCT.out _ _ _ HRR.out).mono ?_
  rintro e w5 ⟨rfl, hb⟩
  have HB5 := Lib.hid (HB4.out.trans (hb.mono HB4.out.size))
  clear hb HB4 HRR
  go_upto_region 7 with (fail)
  obtain ⟨W7, hW7⟩ : ∃ W, w5.alloc (.cells #[.int .i64 0, .int .i64 0, .int .i64 0, .int .i64 0, .int .i64 0, .int .i64 0] 44) = W := ⟨_, rfl⟩
  have HX7 : Hid (Bk W7 w5.heap.size 44 #[.int .i64 0, .int .i64 0, .int .i64 0, .int .i64 0, .int .i64 0, .int .i64 0]) := Lib.hid (by rw [← hW7]; exact Bk.new _ _ _)
  have HB7 : Hid (Below W1.heap.size W1 W7) := Lib.hid (by rw [← hW7]; exact HB5.out.alloc HB5.out.size _)
  rw [hW7]
  obtain ⟨g7, hg7⟩ : ∃ g, w5.heap.size = g := ⟨_, rfl⟩
  rw [hg7] at HX7 ⊢
  clear hW7 hg7 HB5
  obtain ⟨⟨c0, c1, c2, c3, c4, c5, c6⟩, d0, d1⟩ := (HK.out _ (HB7.out)).1
  go_wp2_with fail
  refine (CER.out _ (HK.out _ HB7.out).2.2.2).mono ?_
  rintro e w8 ⟨rfl, hb⟩
  have HB8 := Lib.hid (HB7.out.trans (hb.mono HB7.out.size))
  have HX8 := Lib.hid (HX7.out.later hb)
  clear hb HB7 HX7 c0 c1 c2 c3 c4 c5 c6 d0 d1
  obtain ⟨⟨c0, c1, c2, c3, c4, c5, c6⟩, d0, d1⟩ := (HK.out _ (HB8.out)).1
  go_wp2_with fail
  refine (RCK.out _ (HK.out _ HB8.out).2.2.2).mono ?_
  rintro e w9 ⟨rfl, hb⟩
  have HB9 := Lib.hid (HB8.out.trans (hb.mono HB8.out.size))
  have HX9 := Lib.hid (HX8.out.later hb)
  clear hb HB8 HX8 c0 c1 c2 c3 c4 c5 c6 d0 d1
  obtain ⟨⟨c0, c1, c2, c3, c4, c5, c6⟩, d0, d1⟩ := (HK.out _ (HB9.out)).1
  go_wp2_with fail
  refine (RCT.out _ (HK.out _ HB9.out).2.2.2).mono ?_
  rintro e w10 ⟨rfl, hb⟩
  have HB10 := Lib.hid (HB9.out.trans (hb.mono HB9.out.size))
  have HX10 := Lib.hid (HX9.out.later hb)
  clear hb HB9 HX9 c0 c1 c2 c3 c4 c5 c6 d0 d1
  go_upto_region 14 with (fail)
  obtain ⟨W14, hW14⟩ : ∃ W, w10.alloc (.cells #[.int .i64 0, .int .i64 0, .int .i64 0, .int .i64 0, .int .i64 0, .int .i64 0] 44) = W := ⟨_, rfl⟩
  have HY14 : Hid (Bk W14 w10.heap.size 44 #[.int .i64 0, .int .i64 0, .int .i64 0, .int .i64 0, .int .i64 0, .int .i64 0]) := Lib.hid (by rw [← hW14]; exact Bk.new _ _ _)
  have HX14 : Hid (Bk W14 g7 44 #[.int .i64 0, .int .i64 0, .int .i64 0, .int .i64 0, .int .i64 0, .int .i64 0]) := Lib.hid (by rw [← hW14]; exact HX10.out.alloc _)
  have HB14 : Hid (Below W1.heap.size W1 W14) := Lib.hid (by rw [← hW14]; exact HB10.out.alloc HB10.out.size _)
  rw [hW14]
  obtain ⟨g14, hg14⟩ : ∃ g, w10.heap.size = g := ⟨_, rfl⟩
  rw [hg14] at HY14 ⊢
  clear hW14 hg14 HB10 HX10
  have x0 : W14.cell? ⟨g7, 0, none⟩ = some (.int .i64 0) := by rw [HX14.out.cell]; rfl
  have x1 : W14.cell? ⟨g7, 1, none⟩ = some (.int .i64 0) := by rw [HX14.out.cell]; rfl
  have x2 : W14.cell? ⟨g7, 2, none⟩ = some (.int .i64 0) := by rw [HX14.out.cell]; rfl
  have x3 : W14.cell? ⟨g7, 3, none⟩ = some (.int .i64 0) := by rw [HX14.out.cell]; rfl
  have x4 : W14.cell? ⟨g7, 4, none⟩ = some (.int .i64 0) := by rw [HX14.out.cell]; rfl
  have x5 : W14.cell? ⟨g7, 5, none⟩ = some (.int .i64 0) := by rw [HX14.out.cell]; rfl
  have y0 : W14.cell? ⟨g14, 0, none⟩ = some (.int .i64 0) := by rw [HY14.out.cell]; rfl
  have y1 : W14.cell? ⟨g14, 1, none⟩ = some (.int .i64 0) := by rw [HY14.out.cell]; rfl
  have y2 : W14.cell? ⟨g14, 2, none⟩ = some (.int .i64 0) := by rw [HY14.out.cell]; rfl
  have y3 : W14.cell? ⟨g14, 3, none⟩ = some (.int .i64 0) := by rw [HY14.out.cell]; rfl
  have y4 : W14.cell? ⟨g14, 4, none⟩ = some (.int .i64 0) := by rw [HY14.out.cell]; rfl
  have y5 : W14.cell? ⟨g14, 5, none⟩ = some (.int .i64 0) := by rw [HY14.out.cell]; rfl
  go_wp2
  go_ret
  exact ⟨rfl, (HK.out _ HB14.out).2.1⟩

theorem centers_walk (A : Option Addr) (n c : Nat) (rl rh xl xh yl yh : Int) (ps : List (Int × Int)) (cx cy : Int) (w : World) (hl : LaidSides w) (hr : RdP w A n ps) (hA : A = none → n = 0 ∧ c = 0) :
    Calls Tryd.prog 4 #[.agg #[.slice A n c, .int .i64 rl, .int .i64 rh, .int .i64 xl, .int .i64 xh, .int .i64 yl, .int .i64 yh], .agg #[.int .i64 cx, .int .i64 cy]] w fun e w' => e = .returned (.bool true) ∧ Below w.heap.size w w' := by
  by_cases hn : n ≤ 22
  · have CCP : Hid (∀ W, RdP W A n ps → Calls Tryd.prog 13 #[.agg #[.slice A n c, .int .i64 rl, .int .i64 rh, .int .i64 xl, .int .i64 xh, .int .i64 yl, .int .i64 yh]] W fun e w' => (∃ g cap, e = .returned (.agg #[.slice (some ⟨g, 0, none⟩) n cap, .int .i64 rl, .int .i64 rh, .int .i64 xl, .int .i64 xh, .int .i64 yl, .int .i64 yh]) ∧ RdR w' g n ps) ∧ Below W.heap.size W w') := Lib.hid (fun W h => copyCircle_any A n c rl rh xl xh yl yh ps W hA h (by omega))
    have CER := Lib.hid (fun W (h : RdP W A n ps) => refCircle_any A n c rl rh xl xh yl yh ps W h (by omega))
    have CCK := Lib.hid (fun g cap W (h : RdR W g n ps) => checkCenter_any (some ⟨g, 0, none⟩) n cap rl rh xl xh yl yh ps cx cy W (RdP.ofR h) (by omega))
    by_cases hE : circE ps rl rh xl xh yl yh = 0
    · have RCK := Lib.hid (fun W (h : RdP W A n ps) => refCenter_any A n c rl rh xl xh yl yh ps cx cy W h (by omega) hE)
      have RCT := Lib.hid (fun W (h : RdP W A n ps) => refCenters_any A n c rl rh xl xh yl yh ps W h (by omega) hE)
      have CCT := Lib.hid (fun g cap W (h : RdR W g n ps) => centers_ok (some ⟨g, 0, none⟩) n cap rl rh xl xh yl yh ps W (RdP.ofR h) (by omega) hE)
      rw [if_pos hE, if_pos hE] at CCK
      rw [hE] at CER
      by_cases h0 : (cenL ps rl rh xl xh yl yh).length = 0
      · rw [cenV_nil _ h0, if_pos h0] at CCT
        rw [cenV_nil _ h0, decide_eq_true h0] at RCT
        exact centers_none A n c rl rh xl xh yl yh ps cx cy w hl hr hn _ _ CCP CCK CCT CER RCK RCT
      · rw [cenV_some _ h0, if_neg h0] at CCT
        rw [cenV_some _ h0, decide_eq_false h0] at RCT
        exact centers_found A n c rl rh xl xh yl yh ps cx cy w hl hr hn _ _ _ _ _ _ _ _ CCP CCK CCT CER RCK RCT
    · have CCT := Lib.hid (fun g cap W (h : RdR W g n ps) => centers_bad (some ⟨g, 0, none⟩) n cap rl rh xl xh yl yh ps W (RdP.ofR h) (by omega) _ rfl hE)
      rw [if_neg hE, if_neg hE] at CCK
      exact centers_err A n c rl rh xl xh yl yh ps cx cy w hl hr hn _ hE CCP CCK CCT CER
  · exact centers_wide A n c rl rh xl xh yl yh ps cx cy w hl hr (by omega)

end Go.Proofs.YtpkjkegcdddimaaDoor
