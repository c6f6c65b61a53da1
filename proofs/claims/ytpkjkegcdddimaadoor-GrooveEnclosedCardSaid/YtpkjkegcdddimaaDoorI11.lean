import Derived.Test.YtpkjkegcdddimaaDoorGN
import Derived.Test.YtpkjkegcdddimaaDoorGA
namespace Go.Proofs.YtpkjkegcdddimaaDoor
open Go.RowKit

theorem circ_wide {ps : List (Int × Int)} {rl rh rl' rh' xl xh yl yh : Int} (h : circE ps rl rh xl xh yl yh = 0) (h1 : 0 ≤ rl') (h2 : rl' ≤ rh') (h3 : rh' ≤ 1000) : circE ps rl' rh' xl xh yl yh = 0 := by
  obtain ⟨g1, g2, g3, g4, g5⟩ := circ_ok h
  unfold circE at h ⊢
  rw [if_neg (by omega), if_neg (by omega)] at h ⊢
  by_cases e : endsB ps xl xh yl yh = true ∧ fromB 0 1000 [rl, rh] = true
  · rw [if_pos ⟨e.1, fromB_two.2 (by omega)⟩, if_neg (by omega), if_neg (by omega)]
  · rw [if_neg e] at h; omega
theorem sq_mono {a b : Int} (h0 : 0 ≤ a) (h : a ≤ b) : a * a ≤ b * b := Int.mul_le_mul h h h0 (by omega)
theorem mis_sq {ps : List (Int × Int)} {rl rh : Int} {c : Int × Int} (h : misI rl rh ps c = -1) {i : Nat} (hi : i < ps.length) : rl * rl ≤ sqF (ps.getD i (0, 0)) c ∧ sqF (ps.getD i (0, 0)) c ≤ rh * rh := by
  have h1 := fstF_none h i hi
  unfold offB at h1
  rw [Bool.not_eq_false', fromB_one] at h1
  exact h1
theorem mis_wide {ps : List (Int × Int)} {rl rh rl' rh' : Int} {c : Int × Int} (h : misI rl rh ps c = -1) (h1 : 0 ≤ rl') (h2 : rl' ≤ rl) (h3 : 0 ≤ rh) (h4 : rh ≤ rh') : misI rl' rh' ps c = -1 := by
  refine fstF_all fun i hi => ?_
  have h5 := mis_sq h hi
  have h6 := sq_mono h1 h2
  have h7 := sq_mono h3 h4
  unfold offB
  rw [Bool.not_eq_false', fromB_one]
  omega
/-- The centers ascend. -/
def lexL (p q : Int × Int) : Prop := p.1 < q.1 ∨ (p.1 = q.1 ∧ p.2 ≤ q.2)
theorem colL_sorted (b : Int × Int → Bool) (x yl : Int) : ∀ k, (colL b x yl k).Pairwise lexL
  | 0 => List.Pairwise.nil
  | k + 1 => by
    unfold colL
    split
    · rw [List.pairwise_append]
      refine ⟨colL_sorted b x yl k, List.pairwise_singleton _ _, fun p hp q hq => ?_⟩
      rw [List.mem_singleton] at hq
      subst hq
      have := colL_mem.1 hp
      exact .inr ⟨this.1, by dsimp only; omega⟩
    · exact colL_sorted b x yl k
theorem allL_sorted (b : Int × Int → Bool) (xl yl : Int) (ny : Nat) : ∀ a, (allL b xl yl ny a).Pairwise lexL
  | 0 => List.Pairwise.nil
  | a + 1 => by
    unfold allL
    rw [List.pairwise_append]
    refine ⟨allL_sorted b xl yl ny a, colL_sorted b _ yl ny, fun p hp q hq => ?_⟩
    have h1 := allL_mem.1 hp
    have h2 := colL_mem.1 hq
    exact .inl (by omega)
theorem hdA_first {L : List (Int × Int)} (h : L.Pairwise lexL) {p : Int × Int} (hp : p ∈ L) : lexL (hdA L) p := by
  cases L with
  | nil => cases hp
  | cons q l =>
    rw [List.pairwise_cons] at h
    rcases List.mem_cons.1 hp with rfl | hp
    · exact .inr ⟨rfl, Int.le_refl _⟩
    · exact h.1 p hp
theorem fit_mem {ps : List (Int × Int)} {rl rh xl xh yl yh cx cy : Int} (hx : xl ≤ cx ∧ cx ≤ xh) (hy : yl ≤ cy ∧ cy ≤ yh) (h : misI rl rh ps (cx, cy) = -1) : (cx, cy) ∈ cenL ps rl rh xl xh yl yh := by
  unfold cenL
  exact allL_mem.2 ⟨by dsimp only; omega, by dsimp only; omega, by dsimp only; omega, decide_eq_true h⟩

set_option maxRecDepth 100000 in
set_option maxHeartbeats 4000000 in
theorem enclosed_wide (A : Option Addr) (n c : Nat) (rl rh xl xh yl yh : Int) (ps : List (Int × Int)) (cx cy : Int) (w : World) (hl : LaidSides w) (hr : RdP w A n ps) (hn : 20 < n) :
    Calls Tryd.prog 5 #[.agg #[.slice A n c, .int .i64 rl, .int .i64 rh, .int .i64 xl, .int .i64 xh, .int .i64 yl, .int .i64 yh], .agg #[.int .i64 cx, .int .i64 cy]] w fun e w' => e = .returned (.bool true) ∧ Below w.heap.size w w' := by
  obtain ⟨W1, hW1⟩ : ∃ W, (w.alloc (.cells #[.slice A n c, .int .i64 rl, .int .i64 rh, .int .i64 xl, .int .i64 xh, .int .i64 yl, .int .i64 yh] 39)).alloc (.cells #[.int .i64 cx, .int .i64 cy] 30) = W := ⟨_, rfl⟩
  have hb1 : Below w.heap.size w W1 := by rw [← hW1]; exact ((Below.refl _ _).alloc (Nat.le_refl _) _).alloc (by simp) _
  have k0 : Bk W1 w.heap.size 39 #[.slice A n c, .int .i64 rl, .int .i64 rh, .int .i64 xl, .int .i64 xh, .int .i64 yl, .int .i64 yh] := by rw [← hW1]; exact (Bk.new w 39 #[.slice A n c, .int .i64 rl, .int .i64 rh, .int .i64 xl, .int .i64 xh, .int .i64 yl, .int .i64 yh]).alloc _
  have k1 : Bk W1 (w.heap.size + 1) 30 #[.int .i64 cx, .int .i64 cy] := by
    rw [← hW1]
    have := Bk.new (w.alloc (.cells #[.slice A n c, .int .i64 rl, .int .i64 rh, .int .i64 xl, .int .i64 xh, .int .i64 yl, .int .i64 yh] 39)) 30 #[.int .i64 cx, .int .i64 cy]
    simpa using this
  have HK : Hid (∀ W, Below W1.heap.size W1 W → ((W.cell? ⟨w.heap.size, 0, none⟩ = some (.slice A n c) ∧ W.cell? ⟨w.heap.size, 1, none⟩ = some (.int .i64 rl) ∧ W.cell? ⟨w.heap.size, 2, none⟩ = some (.int .i64 rh) ∧ W.cell? ⟨w.heap.size, 3, none⟩ = some (.int .i64 xl) ∧ W.cell? ⟨w.heap.size, 4, none⟩ = some (.int .i64 xh) ∧ W.cell? ⟨w.heap.size, 5, none⟩ = some (.int .i64 yl) ∧ W.cell? ⟨w.heap.size, 6, none⟩ = some (.int .i64 yh)) ∧ W.cell? ⟨w.heap.size + 1, 0, none⟩ = some (.int .i64 cx) ∧ W.cell? ⟨w.heap.size + 1, 1, none⟩ = some (.int .i64 cy)) ∧ Below w.heap.size w W ∧ LaidSides W ∧ RdP W A n ps) := Lib.hid (fun W hb => by
    have h0 := k0.later hb
    have h1 := k1.later hb
    have hb2 := hb1.trans (hb.mono hb1.size)
    exact ⟨⟨⟨by rw [h0.cell]; rfl, by rw [h0.cell]; rfl, by rw [h0.cell]; rfl, by rw [h0.cell]; rfl, by rw [h0.cell]; rfl, by rw [h0.cell]; rfl, by rw [h0.cell]; rfl⟩, by rw [h1.cell]; rfl, by rw [h1.cell]; rfl⟩, hb2, hl.later hb2, hr.below hb2⟩)
  have hnI : (20 : Int) < (n : Int) := by omega
  clear hr hl hb1 k0 k1
  go_enter Tryd.func5, Tryd.ntmps5
  go_upto_region 1 with (fail)
  try rw [hW1]
  clear hW1
  obtain ⟨⟨c0, c1, c2, c3, c4, c5, c6⟩, d0, d1⟩ := (HK.out _ (Below.refl _ _)).1
  go_wp2_with fail
  refine (awake_any _ (HK.out _ (Below.refl _ _)).2.2.1).mono ?_
  rintro e w2 ⟨rfl, hb2⟩
  have HB2 : Hid (Below W1.heap.size W1 w2) := Lib.hid hb2
  clear hb2 c0 c1 c2 c3 c4 c5 c6 d0 d1
  obtain ⟨⟨c0, c1, c2, c3, c4, c5, c6⟩, d0, d1⟩ := (HK.out _ (HB2.out)).1
  go_wp2
  go_ret
  exact ⟨rfl, (HK.out _ HB2.out).2.1⟩

set_option maxRecDepth 100000 in
set_option maxHeartbeats 4000000 in
theorem enclosed_err (A : Option Addr) (n c : Nat) (rl rh xl xh yl yh : Int) (ps : List (Int × Int)) (cx cy : Int) (w : World) (hl : LaidSides w) (hr : RdP w A n ps) (hn : n ≤ 20) (D : Int) (hD : D ≠ 0)
    (CER : Hid (∀ W, RdP W A n ps → Calls Tryd.prog 15 #[.agg #[.slice A n c, .int .i64 rl, .int .i64 rh, .int .i64 xl, .int .i64 xh, .int .i64 yl, .int .i64 yh]] W fun e w' => e = .returned (.int .i64 D) ∧ Below W.heap.size W w')) :
    Calls Tryd.prog 5 #[.agg #[.slice A n c, .int .i64 rl, .int .i64 rh, .int .i64 xl, .int .i64 xh, .int .i64 yl, .int .i64 yh], .agg #[.int .i64 cx, .int .i64 cy]] w fun e w' => e = .returned (.bool true) ∧ Below w.heap.size w w' := by
  obtain ⟨W1, hW1⟩ : ∃ W, (w.alloc (.cells #[.slice A n c, .int .i64 rl, .int .i64 rh, .int .i64 xl, .int .i64 xh, .int .i64 yl, .int .i64 yh] 39)).alloc (.cells #[.int .i64 cx, .int .i64 cy] 30) = W := ⟨_, rfl⟩
  have hb1 : Below w.heap.size w W1 := by rw [← hW1]; exact ((Below.refl _ _).alloc (Nat.le_refl _) _).alloc (by simp) _
  have k0 : Bk W1 w.heap.size 39 #[.slice A n c, .int .i64 rl, .int .i64 rh, .int .i64 xl, .int .i64 xh, .int .i64 yl, .int .i64 yh] := by rw [← hW1]; exact (Bk.new w 39 #[.slice A n c, .int .i64 rl, .int .i64 rh, .int .i64 xl, .int .i64 xh, .int .i64 yl, .int .i64 yh]).alloc _
  have k1 : Bk W1 (w.heap.size + 1) 30 #[.int .i64 cx, .int .i64 cy] := by
    rw [← hW1]
    have := Bk.new (w.alloc (.cells #[.slice A n c, .int .i64 rl, .int .i64 rh, .int .i64 xl, .int .i64 xh, .int .i64 yl, .int .i64 yh] 39)) 30 #[.int .i64 cx, .int .i64 cy]
    simpa using this
  have HK : Hid (∀ W, Below W1.heap.size W1 W → ((W.cell? ⟨w.heap.size, 0, none⟩ = some (.slice A n c) ∧ W.cell? ⟨w.heap.size, 1, none⟩ = some (.int .i64 rl) ∧ W.cell? ⟨w.heap.size, 2, none⟩ = some (.int .i64 rh) ∧ W.cell? ⟨w.heap.size, 3, none⟩ = some (.int .i64 xl) ∧ W.cell? ⟨w.heap.size, 4, none⟩ = some (.int .i64 xh) ∧ W.cell? ⟨w.heap.size, 5, none⟩ = some (.int .i64 yl) ∧ W.cell? ⟨w.heap.size, 6, none⟩ = some (.int .i64 yh)) ∧ W.cell? ⟨w.heap.size + 1, 0, none⟩ = some (.int .i64 cx) ∧ W.cell? ⟨w.heap.size + 1, 1, none⟩ = some (.int .i64 cy)) ∧ Below w.heap.size w W ∧ LaidSides W ∧ RdP W A n ps) := Lib.hid (fun W hb => by
    have h0 := k0.later hb
    have h1 := k1.later hb
    have hb2 := hb1.trans (hb.mono hb1.size)
    exact ⟨⟨⟨by rw [h0.cell]; rfl, by rw [h0.cell]; rfl, by rw [h0.cell]; rfl, by rw [h0.cell]; rfl, by rw [h0.cell]; rfl, by rw [h0.cell]; rfl, by rw [h0.cell]; rfl⟩, by rw [h1.cell]; rfl, by rw [h1.cell]; rfl⟩, hb2, hl.later hb2, hr.below hb2⟩)
  have hnI : ¬ (20 : Int) < (n : Int) := by omega
  have hDb : (D != 0) = true := by simpa using hD
  clear hD
  clear hr hl hb1 k0 k1
  go_enter Tryd.func5, Tryd.ntmps5
  go_upto_region 1 with (fail)
  try rw [hW1]
  clear hW1
  obtain ⟨⟨c0, c1, c2, c3, c4, c5, c6⟩, d0, d1⟩ := (HK.out _ (Below.refl _ _)).1
  go_wp2_with fail
  refine (awake_any _ (HK.out _ (Below.refl _ _)).2.2.1).mono ?_
  rintro e w2 ⟨rfl, hb2⟩
  have HB2 : Hid (Below W1.heap.size W1 w2) := Lib.hid hb2
  clear hb2 c0 c1 c2 c3 c4 c5 c6 d0 d1
  obtain ⟨⟨c0, c1, c2, c3, c4, c5, c6⟩, d0, d1⟩ := (HK.out _ (HB2.out)).1
  go_wp2_with fail
  refine (CER.out _ (HK.out _ HB2.out).2.2.2).mono ?_
  rintro e w3 ⟨rfl, hb⟩
  have HB3 := Lib.hid (HB2.out.trans (hb.mono HB2.out.size))
  clear hb HB2 c0 c1 c2 c3 c4 c5 c6 d0 d1
  obtain ⟨⟨c0, c1, c2, c3, c4, c5, c6⟩, d0, d1⟩ := (HK.out _ (HB3.out)).1
  go_wp2
  go_ret
  exact ⟨rfl, (HK.out _ HB3.out).2.1⟩

set_option maxRecDepth 100000 in
set_option maxHeartbeats 4000000 in
theorem enclosed_off (A : Option Addr) (n c : Nat) (rl rh xl xh yl yh : Int) (ps : List (Int × Int)) (cx cy : Int) (w : World) (hl : LaidSides w) (hr : RdP w A n ps) (hn : n ≤ 20) (I E : Int) (hE : E ≠ 0)
    (CER : Hid (∀ W, RdP W A n ps → Calls Tryd.prog 15 #[.agg #[.slice A n c, .int .i64 rl, .int .i64 rh, .int .i64 xl, .int .i64 xh, .int .i64 yl, .int .i64 yh]] W fun e w' => e = .returned (.int .i64 0) ∧ Below W.heap.size W w'))
    (CCP : Hid (∀ W, RdP W A n ps → Calls Tryd.prog 13 #[.agg #[.slice A n c, .int .i64 rl, .int .i64 rh, .int .i64 xl, .int .i64 xh, .int .i64 yl, .int .i64 yh]] W fun e w' => (∃ g cap, e = .returned (.agg #[.slice (some ⟨g, 0, none⟩) n cap, .int .i64 rl, .int .i64 rh, .int .i64 xl, .int .i64 xh, .int .i64 yl, .int .i64 yh]) ∧ RdR w' g n ps) ∧ Below W.heap.size W w'))
    (CCK : Hid (∀ g cap W, RdR W g n ps → Calls Tryd.prog 12 #[.agg #[.slice (some ⟨g, 0, none⟩) n cap, .int .i64 rl, .int .i64 rh, .int .i64 xl, .int .i64 xh, .int .i64 yl, .int .i64 yh], .agg #[.int .i64 cx, .int .i64 cy]] W fun e w' => e = .returned (.tuple #[.int .i64 I, .int .i64 E]) ∧ Below W.heap.size W w')) :
    Calls Tryd.prog 5 #[.agg #[.slice A n c, .int .i64 rl, .int .i64 rh, .int .i64 xl, .int .i64 xh, .int .i64 yl, .int .i64 yh], .agg #[.int .i64 cx, .int .i64 cy]] w fun e w' => e = .returned (.bool true) ∧ Below w.heap.size w w' := by
  obtain ⟨W1, hW1⟩ : ∃ W, (w.alloc (.cells #[.slice A n c, .int .i64 rl, .int .i64 rh, .int .i64 xl, .int .i64 xh, .int .i64 yl, .int .i64 yh] 39)).alloc (.cells #[.int .i64 cx, .int .i64 cy] 30) = W := ⟨_, rfl⟩
  have hb1 : Below w.heap.size w W1 := by rw [← hW1]; exact ((Below.refl _ _).alloc (Nat.le_refl _) _).alloc (by simp) _
  have k0 : Bk W1 w.heap.size 39 #[.slice A n c, .int .i64 rl, .int .i64 rh, .int .i64 xl, .int .i64 xh, .int .i64 yl, .int .i64 yh] := by rw [← hW1]; exact (Bk.new w 39 #[.slice A n c, .int .i64 rl, .int .i64 rh, .int .i64 xl, .int .i64 xh, .int .i64 yl, .int .i64 yh]).alloc _
  have k1 : Bk W1 (w.heap.size + 1) 30 #[.int .i64 cx, .int .i64 cy] := by
    rw [← hW1]
    have := Bk.new (w.alloc (.cells #[.slice A n c, .int .i64 rl, .int .i64 rh, .int .i64 xl, .int .i64 xh, .int .i64 yl, .int .i64 yh] 39)) 30 #[.int .i64 cx, .int .i64 cy]
    simpa using this
  have HK : Hid (∀ W, Below W1.heap.size W1 W → ((W.cell? ⟨w.heap.size, 0, none⟩ = some (.slice A n c) ∧ W.cell? ⟨w.heap.size, 1, none⟩ = some (.int .i64 rl) ∧ W.cell? ⟨w.heap.size, 2, none⟩ = some (.int .i64 rh) ∧ W.cell? ⟨w.heap.size, 3, none⟩ = some (.int .i64 xl) ∧ W.cell? ⟨w.heap.size, 4, none⟩ = some (.int .i64 xh) ∧ W.cell? ⟨w.heap.size, 5, none⟩ = some (.int .i64 yl) ∧ W.cell? ⟨w.heap.size, 6, none⟩ = some (.int .i64 yh)) ∧ W.cell? ⟨w.heap.size + 1, 0, none⟩ = some (.int .i64 cx) ∧ W.cell? ⟨w.heap.size + 1, 1, none⟩ = some (.int .i64 cy)) ∧ Below w.heap.size w W ∧ LaidSides W ∧ RdP W A n ps) := Lib.hid (fun W hb => by
    have h0 := k0.later hb
    have h1 := k1.later hb
    have hb2 := hb1.trans (hb.mono hb1.size)
    exact ⟨⟨⟨by rw [h0.cell]; rfl, by rw [h0.cell]; rfl, by rw [h0.cell]; rfl, by rw [h0.cell]; rfl, by rw [h0.cell]; rfl, by rw [h0.cell]; rfl, by rw [h0.cell]; rfl⟩, by rw [h1.cell]; rfl, by rw [h1.cell]; rfl⟩, hb2, hl.later hb2, hr.below hb2⟩)
  have hnI : ¬ (20 : Int) < (n : Int) := by omega
  have hEb : (E != 0) = true := by simpa using hE
  clear hE
  clear hr hl hb1 k0 k1
  go_enter Tryd.func5, Tryd.ntmps5
  go_upto_region 1 with (fail)
  try rw [hW1]
  clear hW1
  obtain ⟨⟨c0, c1, c2, c3, c4, c5, c6⟩, d0, d1⟩ := (HK.out _ (Below.refl _ _)).1
  go_wp2_with fail
  refine (awake_any _ (HK.out _ (Below.refl _ _)).2.2.1).mono ?_
  rintro e w2 ⟨rfl, hb2⟩
  have HB2 : Hid (Below W1.heap.size W1 w2) := Lib.hid hb2
  clear hb2 c0 c1 c2 c3 c4 c5 c6 d0 d1
  obtain ⟨⟨c0, c1, c2, c3, c4, c5, c6⟩, d0, d1⟩ := (HK.out _ (HB2.out)).1
  go_wp2_with fail
  refine (CER.out _ (HK.out _ HB2.out).2.2.2).mono ?_
  rintro e w3 ⟨rfl, hb⟩
  have HB3 := Lib.hid (HB2.out.trans (hb.mono HB2.out.size))
  clear hb HB2 c0 c1 c2 c3 c4 c5 c6 d0 d1
  obtain ⟨⟨c0, c1, c2, c3, c4, c5, c6⟩, d0, d1⟩ := (HK.out _ (HB3.out)).1
  go_wp2_with fail
  refine wp_region_held_drew (S := (fun W : World => ((W.cell? ⟨w.heap.size, 0, none⟩ = some (.slice A n c) ∧ W.cell? ⟨w.heap.size, 1, none⟩ = some (.int .i64 rl) ∧ W.cell? ⟨w.heap.size, 2, none⟩ = some (.int .i64 rh) ∧ W.cell? ⟨w.heap.size, 3, none⟩ = some (.int .i64 xl) ∧ W.cell? ⟨w.heap.size, 4, none⟩ = some (.int .i64 xh) ∧ W.cell? ⟨w.heap.size, 5, none⟩ = some (.int .i64 yl) ∧ W.cell? ⟨w.heap.size, 6, none⟩ = some (.int .i64 yh)) ∧ W.cell? ⟨w.heap.size + 1, 0, none⟩ = some (.int .i64 cx) ∧ W.cell? ⟨w.heap.size + 1, 1, none⟩ = some (.int .i64 cy)))) (by kernel_rfl) ?_ ?_
  · exact (HK.out _ (HB3.out.drew)).1
  intro hHeld
  refine wpAnyH_take (i := 0) (v := ?_) rfl (by kernel_rfl) (by kernel_rfl) (by kernel_rfl) (fun _ _ _ h => h) (Or.inl ⟨by rfl, ?_⟩) (by assumption) ?_
  rotate_left
  · intro w hSw; (try dsimp only at hSw); go_simp; (try (with_reducible rfl))
  try simp only [List.getElem_toArray, List.getElem_cons_succ, List.getElem_cons_zero, Act.put, List.setIfInBounds_toArray, List.set_cons_zero, List.set_cons_succ]
  refine wpAnyH_take (i := 2) (v := ?_) rfl (by kernel_rfl) (by kernel_rfl) (by kernel_rfl) (fun _ _ _ h => h) (Or.inl ⟨by rfl, ?_⟩) (by assumption) ?_
  rotate_left
  · intro w hSw; (try dsimp only at hSw); go_simp; (try (with_reducible rfl))
  try simp only [List.getElem_toArray, List.getElem_cons_succ, List.getElem_cons_zero, Act.put, List.setIfInBounds_toArray, List.set_cons_zero, List.set_cons_succ]
  refine wpAnyH_ready (rs := [1]) (by kernel_rfl) (by simp) ?_
  refine AllReadyH.cons rfl (fun K hK => ?_) AllReadyH.nil
  go_simp
  go_at_call 13; refine (CCP.out _ (HK.out _ HB3.out.drew).2.2.2).mono ?_; rintro e wy ⟨⟨g, cap, rfl, hrr⟩, hb⟩
  have HBy := Lib.hid (HB3.out.drew.trans (hb.mono HB3.out.drew.size))
  have HRR := Lib.hid hrr
  clear hrr hb
  go_wp2_with fail
  refine hK.out _ _ ?_ (fun hHeld => ?_)
  · clear hK K; exact (HK.out _ HBy.out).1
  clear hK K
  try simp only [List.getElem_toArray, List.getElem_cons_succ, List.getElem_cons_zero, Act.put, List.setIfInBounds_toArray, List.set_cons_zero, List.set_cons_succ]
  refine wpAnyH_ready (rs := [3]) (by kernel_rfl) (by simp) ?_
  refine AllReadyH.cons rfl (fun K hK => ?_) AllReadyH.nil
  go_simp
  go_at_call 12; refine (CCK.out _ _ _ HRR.out).mono ?_; rintro e wz ⟨rfl, hb⟩
  have HBz := Lib.hid (HBy.out.trans (hb.mono HBy.out.size))
  clear hb
  go_wp2_with fail
  refine hK.out _ _ ?_ (fun hHeld => ?_)
  · clear hK K; exact (HK.out _ HBz.out).1
  clear hK K
  try simp only [List.getElem_toArray, List.getElem_cons_succ, List.getElem_cons_zero, Act.put, List.setIfInBounds_toArray, List.set_cons_zero, List.set_cons_succ]
  refine wpAnyH_take (i := 4) (v := ?_) rfl (by kernel_rfl) (by kernel_rfl) (by kernel_rfl) (fun _ _ _ h => h) (Or.inl ⟨by rfl, ?_⟩) (by assumption) ?_
  rotate_left
  · intro w hSw; (try dsimp only at hSw); go_simp; (try (with_reducible rfl))
  try simp only [List.getElem_toArray, List.getElem_cons_succ, List.getElem_cons_zero, Act.put, List.setIfInBounds_toArray, List.set_cons_zero, List.set_cons_succ]
  refine wpAnyH_take (i := 5) (v := ?_) rfl (by kernel_rfl) (by kernel_rfl) (by kernel_rfl) (fun _ _ _ h => h) (Or.inl ⟨by rfl, ?_⟩) (by assumption) ?_
  rotate_left
  · intro w hSw; (try dsimp only at hSw); go_simp; (try (with_reducible rfl))
  try simp only [List.getElem_toArray, List.getElem_cons_succ, List.getElem_cons_zero, Act.put, List.setIfInBounds_toArray, List.set_cons_zero, List.set_cons_succ]
  refine wpAnyH_take (i := 6) (v := ?_) rfl (by kernel_rfl) (by kernel_rfl) (by kernel_rfl) (fun _ _ _ h => h) (Or.inl ⟨by rfl, ?_⟩) (by assumption) ?_
  rotate_left
  · intro w hSw; (try dsimp only at hSw); go_simp; (try (with_reducible rfl))
  try simp only [List.getElem_toArray, List.getElem_cons_succ, List.getElem_cons_zero, Act.put, List.setIfInBounds_toArray, List.set_cons_zero, List.set_cons_succ]
  refine wpAnyH_take (i := 7) (v := ?_) rfl (by kernel_rfl) (by kernel_rfl) (by kernel_rfl) (fun _ _ _ h => h) (Or.inl ⟨by rfl, ?_⟩) (by assumption) ?_
  rotate_left
  · intro w hSw; (try dsimp only at hSw); go_simp; (try (with_reducible rfl))
  try simp only [List.getElem_toArray, List.getElem_cons_succ, List.getElem_cons_zero, Act.put, List.setIfInBounds_toArray, List.set_cons_zero, List.set_cons_succ]
  refine wpAnyH_take (i := 8) (v := ?_) rfl (by kernel_rfl) (by kernel_rfl) (by kernel_rfl) (fun _ _ _ h => h) (Or.inl ⟨by rfl, ?_⟩) (by assumption) ?_
  rotate_left
  · intro w hSw; (try dsimp only at hSw); go_simp; (try (with_reducible rfl))
  try simp only [List.getElem_toArray, List.getElem_cons_succ, List.getElem_cons_zero, Act.put, List.setIfInBounds_toArray, List.set_cons_zero, List.set_cons_succ]
  refine wpAnyH_done (by kernel_rfl) ?_ _
  obtain ⟨w4, hw4⟩ : ∃ W, W = wz := ⟨_, rfl⟩
  subst hw4
  have HB4 := Lib.hid HBz.out
  clear hHeld HBy HBz HRR HB3 c0 c1 c2 c3 c4 c5 c6 d0 d1
  go_wp2
  go_ret
  exact ⟨rfl, (HK.out _ HB4.out).2.1⟩

set_option maxRecDepth 100000 in
set_option maxHeartbeats 4000000 in
theorem enclosed_apart (A : Option Addr) (n c : Nat) (rl rh xl xh yl yh : Int) (ps : List (Int × Int)) (cx cy : Int) (w : World) (hl : LaidSides w) (hr : RdP w A n ps) (hn : n ≤ 20) (v0 v1 v2 v3 v4 v5 ql qh : Int)
    (hE : circE ps rl rh xl xh yl yh = 0) (hx : xl ≤ cx ∧ cx ≤ xh) (hy : yl ≤ cy ∧ cy ≤ yh) (hm : misI rl rh ps (cx, cy) = -1)
    (hvx : v2 ≤ cx ∧ cx ≤ v3) (hvy : v4 ≤ cy ∧ cy ≤ v5) (hv0 : v0 < cx)
    (hql : (if 0 < rl - 1 then rl - 1 else 0) = ql) (hqh : (if rh + 1 < 1000 then rh + 1 else 1000) = qh)
    (CER : Hid (∀ W, RdP W A n ps → Calls Tryd.prog 15 #[.agg #[.slice A n c, .int .i64 rl, .int .i64 rh, .int .i64 xl, .int .i64 xh, .int .i64 yl, .int .i64 yh]] W fun e w' => e = .returned (.int .i64 0) ∧ Below W.heap.size W w'))
    (CCP : Hid (∀ W, RdP W A n ps → Calls Tryd.prog 13 #[.agg #[.slice A n c, .int .i64 rl, .int .i64 rh, .int .i64 xl, .int .i64 xh, .int .i64 yl, .int .i64 yh]] W fun e w' => (∃ g cap, e = .returned (.agg #[.slice (some ⟨g, 0, none⟩) n cap, .int .i64 rl, .int .i64 rh, .int .i64 xl, .int .i64 xh, .int .i64 yl, .int .i64 yh]) ∧ RdR w' g n ps) ∧ Below W.heap.size W w'))
    (CCK : Hid (∀ g cap W, RdR W g n ps → Calls Tryd.prog 12 #[.agg #[.slice (some ⟨g, 0, none⟩) n cap, .int .i64 rl, .int .i64 rh, .int .i64 xl, .int .i64 xh, .int .i64 yl, .int .i64 yh], .agg #[.int .i64 cx, .int .i64 cy]] W fun e w' => e = .returned (.tuple #[.int .i64 0, .int .i64 0]) ∧ Below W.heap.size W w'))
    (CCT : Hid (∀ g cap W, RdR W g n ps → Calls Tryd.prog 14 #[.agg #[.slice (some ⟨g, 0, none⟩) n cap, .int .i64 rl, .int .i64 rh, .int .i64 xl, .int .i64 xh, .int .i64 yl, .int .i64 yh]] W fun e w' => e = .returned (.tuple #[.agg #[.int .i64 v0, .int .i64 v1, .int .i64 v2, .int .i64 v3, .int .i64 v4, .int .i64 v5], .int .i64 0]) ∧ Below W.heap.size W w'))
    (CKW : Hid (∀ g cap W, RdR W g n ps → Calls Tryd.prog 12 #[.agg #[.slice (some ⟨g, 0, none⟩) n cap, .int .i64 ql, .int .i64 qh, .int .i64 xl, .int .i64 xh, .int .i64 yl, .int .i64 yh], .agg #[.int .i64 cx, .int .i64 cy]] W fun e w' => e = .returned (.tuple #[.int .i64 0, .int .i64 0]) ∧ Below W.heap.size W w')) :
    Calls Tryd.prog 5 #[.agg #[.slice A n c, .int .i64 rl, .int .i64 rh, .int .i64 xl, .int .i64 xh, .int .i64 yl, .int .i64 yh], .agg #[.int .i64 cx, .int .i64 cy]] w fun e w' => e = .returned (.bool true) ∧ Below w.heap.size w w' := by
  obtain ⟨W1, hW1⟩ : ∃ W, (w.alloc (.cells #[.slice A n c, .int .i64 rl, .int .i64 rh, .int .i64 xl, .int .i64 xh, .int .i64 yl, .int .i64 yh] 39)).alloc (.cells #[.int .i64 cx, .int .i64 cy] 30) = W := ⟨_, rfl⟩
  have hb1 : Below w.heap.size w W1 := by rw [← hW1]; exact ((Below.refl _ _).alloc (Nat.le_refl _) _).alloc (by simp) _
  have k0 : Bk W1 w.heap.size 39 #[.slice A n c, .int .i64 rl, .int .i64 rh, .int .i64 xl, .int .i64 xh, .int .i64 yl, .int .i64 yh] := by rw [← hW1]; exact (Bk.new w 39 #[.slice A n c, .int .i64 rl, .int .i64 rh, .int .i64 xl, .int .i64 xh, .int .i64 yl, .int .i64 yh]).alloc _
  have k1 : Bk W1 (w.heap.size + 1) 30 #[.int .i64 cx, .int .i64 cy] := by
    rw [← hW1]
    have := Bk.new (w.alloc (.cells #[.slice A n c, .int .i64 rl, .int .i64 rh, .int .i64 xl, .int .i64 xh, .int .i64 yl, .int .i64 yh] 39)) 30 #[.int .i64 cx, .int .i64 cy]
    simpa using this
  have HK : Hid (∀ W, Below W1.heap.size W1 W → ((W.cell? ⟨w.heap.size, 0, none⟩ = some (.slice A n c) ∧ W.cell? ⟨w.heap.size, 1, none⟩ = some (.int .i64 rl) ∧ W.cell? ⟨w.heap.size, 2, none⟩ = some (.int .i64 rh) ∧ W.cell? ⟨w.heap.size, 3, none⟩ = some (.int .i64 xl) ∧ W.cell? ⟨w.heap.size, 4, none⟩ = some (.int .i64 xh) ∧ W.cell? ⟨w.heap.size, 5, none⟩ = some (.int .i64 yl) ∧ W.cell? ⟨w.heap.size, 6, none⟩ = some (.int .i64 yh)) ∧ W.cell? ⟨w.heap.size + 1, 0, none⟩ = some (.int .i64 cx) ∧ W.cell? ⟨w.heap.size + 1, 1, none⟩ = some (.int .i64 cy)) ∧ Below w.heap.size w W ∧ LaidSides W ∧ RdP W A n ps) := Lib.hid (fun W hb => by
    have h0 := k0.later hb
    have h1 := k1.later hb
    have hb2 := hb1.trans (hb.mono hb1.size)
    exact ⟨⟨⟨by rw [h0.cell]; rfl, by rw [h0.cell]; rfl, by rw [h0.cell]; rfl, by rw [h0.cell]; rfl, by rw [h0.cell]; rfl, by rw [h0.cell]; rfl, by rw [h0.cell]; rfl⟩, by rw [h1.cell]; rfl, by rw [h1.cell]; rfl⟩, hb2, hl.later hb2, hr.below hb2⟩)
  have hnI : ¬ (20 : Int) < (n : Int) := by omega
  obtain ⟨q1, q2, q3, q4, q5⟩ := circ_ok hE
  have hcb : (-1000 ≤ cx ∧ cx ≤ 1000) ∧ -1000 ≤ cy ∧ cy ≤ 1000 := by omega
  have hn0 : 0 < n := by rw [← hr.1]; exact q1.1
  have HP : Hid (∀ j, j < n → (-1000 ≤ (ps.getD j (0, 0)).1 ∧ (ps.getD j (0, 0)).1 ≤ 1000) ∧ -1000 ≤ (ps.getD j (0, 0)).2 ∧ (ps.getD j (0, 0)).2 ≤ 1000) := Lib.hid (fun j hj => q2 j (by rw [hr.1]; exact hj))
  have CX := Lib.hid (fun W => within_any cx xl xh W)
  have CY := Lib.hid (fun W => within_any cy yl yh W)
  have CVX := Lib.hid (fun W => within_any cx v2 v3 W)
  have CVY := Lib.hid (fun W => within_any cy v4 v5 W)
  rw [fromB_one.2 hx] at CX
  rw [fromB_one.2 hy] at CY
  rw [fromB_one.2 hvx] at CVX
  rw [fromB_one.2 hvy] at CVY
  have s3 := sq_bd (x := rl) (m := 1000) (by omega)
  have s4 := sq_bd (x := rh) (m := 1000) (by omega)
  have s5 := sq_mono q3.1 q3.2.1
  have HS0 : ∀ j, j < n → rl * rl ≤ sqF (cx, cy) (ps.getD j (0, 0)) ∧ sqF (cx, cy) (ps.getD j (0, 0)) ≤ rh * rh := fun j hj => by
    rw [sqF_comm]; exact mis_sq hm (by rw [hr.1]; exact hj)
  obtain ⟨r1, hr1⟩ : ∃ z, rl * rl = z := ⟨_, rfl⟩
  obtain ⟨r2, hr2⟩ : ∃ z, rh * rh = z := ⟨_, rfl⟩
  rw [hr1] at s3 HS0 s5
  rw [hr2] at s4 HS0 s5
  have HS := Lib.hid HS0
  have hw1 : IntKind.i64.wrap (rl * rl) = r1 := by rw [hr1]; exact IntWalk.i64_in _ (by omega)
  have hw2 : IntKind.i64.wrap (rh * rh) = r2 := by rw [hr2]; exact IntWalk.i64_in _ (by omega)
  obtain ⟨most, hmost⟩ : ∃ z, r2 - r1 = z := ⟨_, rfl⟩
  have hw3 : IntKind.i64.wrap (r2 - r1) = most := by rw [hmost]; exact IntWalk.i64_in _ (by omega)
  have hw4 : IntKind.i64.wrap (rl - 1) = rl - 1 := IntWalk.i64_in _ (by omega)
  have hw5 : IntKind.i64.wrap (rh + 1) = rh + 1 := IntWalk.i64_in _ (by omega)
  obtain ⟨rm, hrm⟩ : ∃ z, rl - 1 = z := ⟨_, rfl⟩
  obtain ⟨rp, hrp⟩ : ∃ z, rh + 1 = z := ⟨_, rfl⟩
  have hw6 : IntKind.i64.wrap (rl - 1) = rm := by rw [← hrm]; exact hw4
  have hw7 : IntKind.i64.wrap (rh + 1) = rp := by rw [← hrp]; exact hw5
  rw [hrm] at hql
  rw [hrp] at hqh
  clear hw4 hw5 hrm hrp
  have hlt0 : ¬ cx < v0 := by omega
  have hne0 : (cx == v0) = false := by simp; omega
  have hne1 : ¬ cx = v0 := by omega
  clear hE hx hy hm hvx hvy q1 q2 q3 q4 q5 hr1 hr2 HS0
  clear hr hl hb1 k0 k1
  go_enter Tryd.func5, Tryd.ntmps5
  go_upto_region 1 with (fail)
  try rw [hW1]
  clear hW1
  obtain ⟨⟨c0, c1, c2, c3, c4, c5, c6⟩, d0, d1⟩ := (HK.out _ (Below.refl _ _)).1
  go_wp2_with fail
  refine (awake_any _ (HK.out _ (Below.refl _ _)).2.2.1).mono ?_
  rintro e w2 ⟨rfl, hb2⟩
  have HB2 : Hid (Below W1.heap.size W1 w2) := Lib.hid hb2
  clear hb2 c0 c1 c2 c3 c4 c5 c6 d0 d1
  obtain ⟨⟨c0, c1, c2, c3, c4, c5, c6⟩, d0, d1⟩ := (HK.out _ (HB2.out)).1
  go_wp2_with fail
  refine (CER.out _ (HK.out _ HB2.out).2.2.2).mono ?_
  rintro e w3 ⟨rfl, hb⟩
  have HB3 := Lib.hid (HB2.out.trans (hb.mono HB2.out.size))
  clear hb HB2 c0 c1 c2 c3 c4 c5 c6 d0 d1
  obtain ⟨⟨c0, c1, c2, c3, c4, c5, c6⟩, d0, d1⟩ := (HK.out _ (HB3.out)).1
  go_wp2_with fail
  refine wp_region_held_drew (S := (fun W : World => ((W.cell? ⟨w.heap.size, 0, none⟩ = some (.slice A n c) ∧ W.cell? ⟨w.heap.size, 1, none⟩ = some (.int .i64 rl) ∧ W.cell? ⟨w.heap.size, 2, none⟩ = some (.int .i64 rh) ∧ W.cell? ⟨w.heap.size, 3, none⟩ = some (.int .i64 xl) ∧ W.cell? ⟨w.heap.size, 4, none⟩ = some (.int .i64 xh) ∧ W.cell? ⟨w.heap.size, 5, none⟩ = some (.int .i64 yl) ∧ W.cell? ⟨w.heap.size, 6, none⟩ = some (.int .i64 yh)) ∧ W.cell? ⟨w.heap.size + 1, 0, none⟩ = some (.int .i64 cx) ∧ W.cell? ⟨w.heap.size + 1, 1, none⟩ = some (.int .i64 cy)))) (by kernel_rfl) ?_ ?_
  · exact (HK.out _ (HB3.out.drew)).1
  intro hHeld
  refine wpAnyH_take (i := 0) (v := ?_) rfl (by kernel_rfl) (by kernel_rfl) (by kernel_rfl) (fun _ _ _ h => h) (Or.inl ⟨by rfl, ?_⟩) (by assumption) ?_
  rotate_left
  · intro w hSw; (try dsimp only at hSw); go_simp; (try (with_reducible rfl))
  try simp only [List.getElem_toArray, List.getElem_cons_succ, List.getElem_cons_zero, Act.put, List.setIfInBounds_toArray, List.set_cons_zero, List.set_cons_succ]
  refine wpAnyH_take (i := 2) (v := ?_) rfl (by kernel_rfl) (by kernel_rfl) (by kernel_rfl) (fun _ _ _ h => h) (Or.inl ⟨by rfl, ?_⟩) (by assumption) ?_
  rotate_left
  · intro w hSw; (try dsimp only at hSw); go_simp; (try (with_reducible rfl))
  try simp only [List.getElem_toArray, List.getElem_cons_succ, List.getElem_cons_zero, Act.put, List.setIfInBounds_toArray, List.set_cons_zero, List.set_cons_succ]
  refine wpAnyH_ready (rs := [1]) (by kernel_rfl) (by simp) ?_
  refine AllReadyH.cons rfl (fun K hK => ?_) AllReadyH.nil
  go_simp
  go_at_call 13; refine (CCP.out _ (HK.out _ HB3.out.drew).2.2.2).mono ?_; rintro e wy ⟨⟨g, cap, rfl, hrr⟩, hb⟩
  have HBy := Lib.hid (HB3.out.drew.trans (hb.mono HB3.out.drew.size))
  have HRR := Lib.hid hrr
  clear hrr hb
  go_wp2_with fail
  refine hK.out _ _ ?_ (fun hHeld => ?_)
  · clear hK K; exact (HK.out _ HBy.out).1
  clear hK K
  try simp only [List.getElem_toArray, List.getElem_cons_succ, List.getElem_cons_zero, Act.put, List.setIfInBounds_toArray, List.set_cons_zero, List.set_cons_succ]
  refine wpAnyH_ready (rs := [3]) (by kernel_rfl) (by simp) ?_
  refine AllReadyH.cons rfl (fun K hK => ?_) AllReadyH.nil
  go_simp
  go_at_call 12; refine (CCK.out _ _ _ HRR.out).mono ?_; rintro e wz ⟨rfl, hb⟩
  have HBz := Lib.hid (HBy.out.trans (hb.mono HBy.out.size))
  clear hb
  go_wp2_with fail
  refine hK.out _ _ ?_ (fun hHeld => ?_)
  · clear hK K; exact (HK.out _ HBz.out).1
  clear hK K
  try simp only [List.getElem_toArray, List.getElem_cons_succ, List.getElem_cons_zero, Act.put, List.setIfInBounds_toArray, List.set_cons_zero, List.set_cons_succ]
  refine wpAnyH_take (i := 4) (v := ?_) rfl (by kernel_rfl) (by kernel_rfl) (by kernel_rfl) (fun _ _ _ h => h) (Or.inl ⟨by rfl, ?_⟩) (by assumption) ?_
  rotate_left
  · intro w hSw; (try dsimp only at hSw); go_simp; (try (with_reducible rfl))
  try simp only [List.getElem_toArray, List.getElem_cons_succ, List.getElem_cons_zero, Act.put, List.setIfInBounds_toArray, List.set_cons_zero, List.set_cons_succ]
  refine wpAnyH_take (i := 5) (v := ?_) rfl (by kernel_rfl) (by kernel_rfl) (by kernel_rfl) (fun _ _ _ h => h) (Or.inl ⟨by rfl, ?_⟩) (by assumption) ?_
  rotate_left
  · intro w hSw; (try dsimp only at hSw); go_simp; (try (with_reducible rfl))
  try simp only [List.getElem_toArray, List.getElem_cons_succ, List.getElem_cons_zero, Act.put, List.setIfInBounds_toArray, List.set_cons_zero, List.set_cons_succ]
  refine wpAnyH_take (i := 6) (v := ?_) rfl (by kernel_rfl) (by kernel_rfl) (by kernel_rfl) (fun _ _ _ h => h) (Or.inl ⟨by rfl, ?_⟩) (by assumption) ?_
  rotate_left
  · intro w hSw; (try dsimp only at hSw); go_simp; (try (with_reducible rfl))
  try simp only [List.getElem_toArray, List.getElem_cons_succ, List.getElem_cons_zero, Act.put, List.setIfInBounds_toArray, List.set_cons_zero, List.set_cons_succ]
  refine wpAnyH_take (i := 7) (v := ?_) rfl (by kernel_rfl) (by kernel_rfl) (by kernel_rfl) (fun _ _ _ h => h) (Or.inl ⟨by rfl, ?_⟩) (by assumption) ?_
  rotate_left
  · intro w hSw; (try dsimp only at hSw); go_simp; (try (with_reducible rfl))
  try simp only [List.getElem_toArray, List.getElem_cons_succ, List.getElem_cons_zero, Act.put, List.setIfInBounds_toArray, List.set_cons_zero, List.set_cons_succ]
  refine wpAnyH_take (i := 8) (v := ?_) rfl (by kernel_rfl) (by kernel_rfl) (by kernel_rfl) (fun _ _ _ h => h) (Or.inl ⟨by rfl, ?_⟩) (by assumption) ?_
  rotate_left
  · intro w hSw; (try dsimp only at hSw); go_simp; (try (with_reducible rfl))
  try simp only [List.getElem_toArray, List.getElem_cons_succ, List.getElem_cons_zero, Act.put, List.setIfInBounds_toArray, List.set_cons_zero, List.set_cons_succ]
  refine wpAnyH_done (by kernel_rfl) ?_ _
  obtain ⟨w4, hw4⟩ : ∃ W, W = wz := ⟨_, rfl⟩
  subst hw4
  have HB4 := Lib.hid HBz.out
  clear hHeld HBy HBz HRR HB3 c0 c1 c2 c3 c4 c5 c6 d0 d1
  obtain ⟨⟨c0, c1, c2, c3, c4, c5, c6⟩, d0, d1⟩ := (HK.out _ (HB4.out)).1
  go_wp2_with fail
  refine (CX.out _).mono ?_
  rintro e w' ⟨rfl, rfl⟩
  go_wp2_with fail
  refine (CY.out _).mono ?_
  rintro e w' ⟨rfl, rfl⟩
  go_wp2_with fail
  refine (CCP.out _ (HK.out _ HB4.out).2.2.2).mono ?_
  rintro e w5 ⟨⟨g5, cap5, rfl, hrr⟩, hb⟩
  have HRR := Lib.hid hrr
  have HB5 := Lib.hid (HB4.out.trans (hb.mono HB4.out.size))
  clear hrr hb HB4 c0 c1 c2 c3 c4 c5 c6 d0 d1
  go_wp2_with fail
  refine (CCT.out _ _ _ HRR.out).mono ?_
  rintro e w6 ⟨rfl, hb⟩
  have HB6 := Lib.hid (HB5.out.trans (hb.mono HB5.out.size))
  clear hb HB5 HRR
  go_upto_region 11 with (fail)
  obtain ⟨W7, hW7⟩ : ∃ W, w6.alloc (.cells #[.int .i64 v0, .int .i64 v1, .int .i64 v2, .int .i64 v3, .int .i64 v4, .int .i64 v5] 44) = W := ⟨_, rfl⟩
  have HX7 : Hid (Bk W7 w6.heap.size 44 #[.int .i64 v0, .int .i64 v1, .int .i64 v2, .int .i64 v3, .int .i64 v4, .int .i64 v5]) := Lib.hid (by rw [← hW7]; exact Bk.new _ _ _)
  have HB7 : Hid (Below W1.heap.size W1 W7) := Lib.hid (by rw [← hW7]; exact HB6.out.alloc HB6.out.size _)
  rw [hW7]
  obtain ⟨g7, hg7⟩ : ∃ g, w6.heap.size = g := ⟨_, rfl⟩
  rw [hg7] at HX7 ⊢
  clear hW7 hg7 HB6
  obtain ⟨⟨c0, c1, c2, c3, c4, c5, c6⟩, d0, d1⟩ := (HK.out _ (HB7.out)).1
  have x0 : W7.cell? ⟨g7, 0, none⟩ = some (.int .i64 v0) := by rw [HX7.out.cell]; rfl
  have x1 : W7.cell? ⟨g7, 1, none⟩ = some (.int .i64 v1) := by rw [HX7.out.cell]; rfl
  have x2 : W7.cell? ⟨g7, 2, none⟩ = some (.int .i64 v2) := by rw [HX7.out.cell]; rfl
  have x3 : W7.cell? ⟨g7, 3, none⟩ = some (.int .i64 v3) := by rw [HX7.out.cell]; rfl
  have x4 : W7.cell? ⟨g7, 4, none⟩ = some (.int .i64 v4) := by rw [HX7.out.cell]; rfl
  have x5 : W7.cell? ⟨g7, 5, none⟩ = some (.int .i64 v5) := by rw [HX7.out.cell]; rfl
  go_wp2_with fail
  refine (CVX.out _).mono ?_
  rintro e w' ⟨rfl, rfl⟩
  go_wp2_with fail
  refine (CVY.out _).mono ?_
  rintro e w' ⟨rfl, rfl⟩

  obtain ⟨ad, hAd, hadb, hcp⟩ := (HK.out _ HB7.out).2.2.2.2 hn0
  subst hAd
  have HCP : Hid (∀ W, Below W7.heap.size W7 W → ∀ j, j < n → W.cell? (ad.add (j * 2)) = some (.int .i64 (ps.getD j (0, 0)).1) ∧ W.cell? ((ad.add (j * 2)).add 1) = some (.int .i64 (ps.getD j (0, 0)).2)) := Lib.hid (fun W hb j hj => ⟨(hb.cell (p := ad.add (j * 2)) (by rw [addBlock]; exact hadb)).trans (hcp j hj).1, (hb.cell (p := (ad.add (j * 2)).add 1) (by rw [addBlock, addBlock]; exact hadb)).trans (hcp j hj).2⟩)
  clear hcp hadb
  go_wp2
  go_loopw [10] (fun i wr => ∃ a : Nat, a ≤ n ∧ i = .int .i64 (a : Int) ∧ Hid (Below W7.heap.size W7 wr)) (fun i _ => n - (intOf i).toNat)
  case atStart => exact ⟨0, Nat.zero_le _, rfl, Below.refl _ _⟩
  case round =>
    clear c0 c1 c2 c3 c4 c5 c6 d0 d1
    obtain ⟨a, ha, rfl, HBa⟩ := hrel
    have HBA := Lib.hid (HB7.out.trans (HBa.out.mono HB7.out.size))
    obtain ⟨⟨c0, c1, c2, c3, c4, c5, c6⟩, d0, d1⟩ := (HK.out _ (HBA.out)).1
    by_cases hlt : a < n
    · have haI : (a : Int) < (n : Int) := by omega
      go_wp2
      go_loopw [11] (fun i wr => ∃ b : Nat, b ≤ a ∧ i = .int .i64 (b : Int) ∧ Hid (Below W7.heap.size W7 wr)) (fun i _ => a - (intOf i).toNat)
      case atStart => exact ⟨0, Nat.zero_le _, rfl, HBa.out⟩
      case round =>
        clear c0 c1 c2 c3 c4 c5 c6 d0 d1 HBa HBA
        obtain ⟨b, hbn, rfl, HBk⟩ := hrel
        have HBA := Lib.hid (HB7.out.trans (HBk.out.mono HB7.out.size))
        obtain ⟨⟨c0, c1, c2, c3, c4, c5, c6⟩, d0, d1⟩ := (HK.out _ (HBA.out)).1
        by_cases hltb : b < a
        · have hbI : (b : Int) < (a : Int) := by omega
          have hbnI : (b : Int) < (n : Int) := by omega
          have hbnN : b < n := by omega
          have HSQ : Hid (∀ W, Below wr.heap.size wr W → (W.cell? ⟨w.heap.size, 0, none⟩ = some (.slice (some ad) n c)) ∧ (W.cell? ⟨w.heap.size + 1, 0, none⟩ = some (.int .i64 cx) ∧ W.cell? ⟨w.heap.size + 1, 1, none⟩ = some (.int .i64 cy)) ∧ (W.cell? (ad.add (a * 2)) = some (.int .i64 (ps.getD a (0, 0)).1) ∧ W.cell? ((ad.add (a * 2)).add 1) = some (.int .i64 (ps.getD a (0, 0)).2)) ∧ W.cell? (ad.add (b * 2)) = some (.int .i64 (ps.getD b (0, 0)).1) ∧ W.cell? ((ad.add (b * 2)).add 1) = some (.int .i64 (ps.getD b (0, 0)).2)) := Lib.hid (fun W hb => by
            have hb7 := HBk.out.trans (hb.mono HBk.out.size)
            have h := (HK.out W (HB7.out.trans (hb7.mono HB7.out.size))).1
            exact ⟨h.1.1, h.2, HCP.out W hb7 a hlt, HCP.out W hb7 b hbnN⟩)
          have hpa := HP.out a hlt
          have hpb := HP.out b hbnN
          have hsa := HS.out a hlt
          have hsb := HS.out b hbnN
          have hppa : ps.getD a (0, 0) = ((ps.getD a (0, 0)).1, (ps.getD a (0, 0)).2) := rfl
          have hppb : ps.getD b (0, 0) = ((ps.getD b (0, 0)).1, (ps.getD b (0, 0)).2) := rfl
          rw [hppa] at hsa
          rw [hppb] at hsb
          obtain ⟨ix, hix⟩ : ∃ z, (ps.getD a (0, 0)).1 = z := ⟨_, rfl⟩
          obtain ⟨iy, hiy⟩ : ∃ z, (ps.getD a (0, 0)).2 = z := ⟨_, rfl⟩
          obtain ⟨kx, hkx⟩ : ∃ z, (ps.getD b (0, 0)).1 = z := ⟨_, rfl⟩
          obtain ⟨ky, hky⟩ : ∃ z, (ps.getD b (0, 0)).2 = z := ⟨_, rfl⟩
          obtain ⟨pi, hpi⟩ : ∃ z, ad.add (a * 2) = z := ⟨_, rfl⟩
          obtain ⟨pi1, hpi1⟩ : ∃ z, pi.add 1 = z := ⟨_, rfl⟩
          obtain ⟨pk, hpk⟩ : ∃ z, ad.add (b * 2) = z := ⟨_, rfl⟩
          obtain ⟨pk1, hpk1⟩ : ∃ z, pk.add 1 = z := ⟨_, rfl⟩
          have addZi : pi.add 0 = pi := addZ pi
          have addZk : pk.add 0 = pk := addZ pk
          rw [hix, hiy, hkx, hky, hpi, hpk, hpi1, hpk1] at HSQ
          rw [hix, hiy] at hpa hsa
          rw [hkx, hky] at hpb hsb
          have CS1 := Lib.hid (fun W => square_any cx cy ix iy W (by omega))
          have CS2 := Lib.hid (fun W => square_any cx cy kx ky W (by omega))
          obtain ⟨D1, hD1⟩ : ∃ z, sqF (cx, cy) (ix, iy) = z := ⟨_, rfl⟩
          obtain ⟨D2, hD2⟩ : ∃ z, sqF (cx, cy) (kx, ky) = z := ⟨_, rfl⟩
          rw [hD1] at CS1 hsa
          rw [hD2] at CS2 hsb
          have ww1 : IntKind.i64.wrap (D1 - D2) = D1 - D2 := IntWalk.i64_in _ (by omega)
          have CSz := Lib.hid (fun W => size_any (D1 - D2) W (by omega))
          obtain ⟨sz, hsz⟩ : ∃ z, (if D1 - D2 < 0 then -(D1 - D2) else D1 - D2) = z := ⟨_, rfl⟩
          rw [hsz] at CSz
          have hgt : ¬ most < sz := by rw [← hsz]; split <;> omega
          have HBd := Lib.hid ((Below.refl wr.heap.size wr).drew)
          clear hix hiy hkx hky hpa hpb hsa hsb hppa hppb hD1 hD2 hsz
          go_wp2_with fail
          refine wp_region_held_drew (S := (fun W : World => (W.cell? ⟨w.heap.size, 0, none⟩ = some (.slice (some ad) n c)) ∧ (W.cell? ⟨w.heap.size + 1, 0, none⟩ = some (.int .i64 cx) ∧ W.cell? ⟨w.heap.size + 1, 1, none⟩ = some (.int .i64 cy)) ∧ (W.cell? pi = some (.int .i64 ix) ∧ W.cell? pi1 = some (.int .i64 iy)) ∧ W.cell? pk = some (.int .i64 kx) ∧ W.cell? pk1 = some (.int .i64 ky))) (by kernel_rfl) ?_ ?_
          · exact HSQ.out _ HBd.out
          intro hHeld
          refine wpAnyH_take (i := 0) (v := ?_) rfl (by kernel_rfl) (by kernel_rfl) (by kernel_rfl) (fun _ _ _ h => h) (Or.inl ⟨by rfl, ?_⟩) (by assumption) ?_
          rotate_left
          · intro w hSw; (try dsimp only at hSw); go_simp; (try (with_reducible rfl))
          try simp only [List.getElem_toArray, List.getElem_cons_succ, List.getElem_cons_zero, Act.put, List.setIfInBounds_toArray, List.set_cons_zero, List.set_cons_succ]
          refine wpAnyH_take (i := 1) (v := ?_) rfl (by kernel_rfl) (by kernel_rfl) (by kernel_rfl) (fun _ _ _ h => h) (Or.inl ⟨by rfl, ?_⟩) (by assumption) ?_
          rotate_left
          · intro w hSw; (try dsimp only at hSw); go_simp; (try (with_reducible rfl))
          try simp only [List.getElem_toArray, List.getElem_cons_succ, List.getElem_cons_zero, Act.put, List.setIfInBounds_toArray, List.set_cons_zero, List.set_cons_succ]
          refine wpAnyH_take (i := 2) (v := ?_) rfl (by kernel_rfl) (by kernel_rfl) (by kernel_rfl) (fun _ _ _ h => h) (Or.inl ⟨by rfl, ?_⟩) (by assumption) ?_
          rotate_left
          · intro w hSw; (try dsimp only at hSw); go_simp; (try (with_reducible rfl))
          try simp only [List.getElem_toArray, List.getElem_cons_succ, List.getElem_cons_zero, Act.put, List.setIfInBounds_toArray, List.set_cons_zero, List.set_cons_succ]
          refine wpAnyH_take (i := 3) (v := ?_) rfl (by kernel_rfl) (by kernel_rfl) (by kernel_rfl) (fun _ _ _ h => h) (Or.inl ⟨by rfl, ?_⟩) (by assumption) ?_
          rotate_left
          · intro w hSw; (try dsimp only at hSw); go_simp; (try (with_reducible rfl))
          try simp only [List.getElem_toArray, List.getElem_cons_succ, List.getElem_cons_zero, Act.put, List.setIfInBounds_toArray, List.set_cons_zero, List.set_cons_succ]
          refine wpAnyH_take (i := 4) (v := ?_) rfl (by kernel_rfl) (by kernel_rfl) (by kernel_rfl) (fun _ _ _ h => h) (Or.inl ⟨by rfl, ?_⟩) (by assumption) ?_
          rotate_left
          · intro w hSw; (try dsimp only at hSw); go_simp; (try (with_reducible rfl))
          try simp only [List.getElem_toArray, List.getElem_cons_succ, List.getElem_cons_zero, Act.put, List.setIfInBounds_toArray, List.set_cons_zero, List.set_cons_succ]
          refine wpAnyH_take (i := 5) (v := ?_) rfl (by kernel_rfl) (by kernel_rfl) (by kernel_rfl) (fun _ _ _ h => h) (Or.inl ⟨by rfl, ?_⟩) (by assumption) ?_
          rotate_left
          · intro w hSw; (try dsimp only at hSw); go_simp; (try (with_reducible rfl))
          try simp only [List.getElem_toArray, List.getElem_cons_succ, List.getElem_cons_zero, Act.put, List.setIfInBounds_toArray, List.set_cons_zero, List.set_cons_succ]
          refine wpAnyH_take (i := 7) (v := ?_) rfl (by kernel_rfl) (by kernel_rfl) (by kernel_rfl) (fun _ _ _ h => h) (Or.inl ⟨by rfl, ?_⟩) (by assumption) ?_
          rotate_left
          · intro w hSw; (try dsimp only at hSw); go_simp; (try (with_reducible rfl))
          try simp only [List.getElem_toArray, List.getElem_cons_succ, List.getElem_cons_zero, Act.put, List.setIfInBounds_toArray, List.set_cons_zero, List.set_cons_succ]
          refine wpAnyH_take (i := 8) (v := ?_) rfl (by kernel_rfl) (by kernel_rfl) (by kernel_rfl) (fun _ _ _ h => h) (Or.inl ⟨by rfl, ?_⟩) (by assumption) ?_
          rotate_left
          · intro w hSw; (try dsimp only at hSw); go_simp; (try (with_reducible rfl))
          try simp only [List.getElem_toArray, List.getElem_cons_succ, List.getElem_cons_zero, Act.put, List.setIfInBounds_toArray, List.set_cons_zero, List.set_cons_succ]
          refine wpAnyH_take (i := 9) (v := ?_) rfl (by kernel_rfl) (by kernel_rfl) (by kernel_rfl) (fun _ _ _ h => h) (Or.inl ⟨by rfl, ?_⟩) (by assumption) ?_
          rotate_left
          · intro w hSw; (try dsimp only at hSw); go_simp; (try (with_reducible rfl))
          try simp only [List.getElem_toArray, List.getElem_cons_succ, List.getElem_cons_zero, Act.put, List.setIfInBounds_toArray, List.set_cons_zero, List.set_cons_succ]
          refine wpAnyH_take (i := 10) (v := ?_) rfl (by kernel_rfl) (by kernel_rfl) (by kernel_rfl) (fun _ _ _ h => h) (Or.inl ⟨by rfl, ?_⟩) (by assumption) ?_
          rotate_left
          · intro w hSw; (try dsimp only at hSw); go_simp; (try (with_reducible rfl))
          try simp only [List.getElem_toArray, List.getElem_cons_succ, List.getElem_cons_zero, Act.put, List.setIfInBounds_toArray, List.set_cons_zero, List.set_cons_succ]
          refine wpAnyH_take (i := 11) (v := ?_) rfl (by kernel_rfl) (by kernel_rfl) (by kernel_rfl) (fun _ _ _ h => h) (Or.inl ⟨by rfl, ?_⟩) (by assumption) ?_
          rotate_left
          · intro w hSw; (try dsimp only at hSw); go_simp; (try (with_reducible rfl))
          try simp only [List.getElem_toArray, List.getElem_cons_succ, List.getElem_cons_zero, Act.put, List.setIfInBounds_toArray, List.set_cons_zero, List.set_cons_succ]
          refine wpAnyH_take (i := 12) (v := ?_) rfl (by kernel_rfl) (by kernel_rfl) (by kernel_rfl) (fun _ _ _ h => h) (Or.inl ⟨by rfl, ?_⟩) (by assumption) ?_
          rotate_left
          · intro w hSw; (try dsimp only at hSw); go_simp; (try (with_reducible rfl))
          try simp only [List.getElem_toArray, List.getElem_cons_succ, List.getElem_cons_zero, Act.put, List.setIfInBounds_toArray, List.set_cons_zero, List.set_cons_succ]
          refine wpAnyH_take (i := 16) (v := ?_) rfl (by kernel_rfl) (by kernel_rfl) (by kernel_rfl) (fun _ _ _ h => h) (Or.inl ⟨by rfl, ?_⟩) (by assumption) ?_
          rotate_left
          · intro w hSw; (try dsimp only at hSw); go_simp; (try (with_reducible rfl))
          try simp only [List.getElem_toArray, List.getElem_cons_succ, List.getElem_cons_zero, Act.put, List.setIfInBounds_toArray, List.set_cons_zero, List.set_cons_succ]
          refine wpAnyH_ready (rs := [6]) (by kernel_rfl) (by simp) ?_
          refine AllReadyH.cons rfl (fun K hK => ?_) AllReadyH.nil
          go_simp
          go_at_call 20; refine (CS1.out _).mono ?_; rintro e wy ⟨rfl, hb⟩
          have HBy := Lib.hid (HBd.out.trans (hb.mono HBd.out.size))
          clear hb
          go_wp2_with fail
          refine hK.out _ _ ?_ (fun hHeld => ?_)
          · clear hK K; exact HSQ.out _ HBy.out
          clear hK K
          try simp only [List.getElem_toArray, List.getElem_cons_succ, List.getElem_cons_zero, Act.put, List.setIfInBounds_toArray, List.set_cons_zero, List.set_cons_succ]
          refine wpAnyH_ready (rs := [13]) (by kernel_rfl) (by simp) ?_
          refine AllReadyH.cons rfl (fun K hK => ?_) AllReadyH.nil
          go_simp
          go_at_call 20; refine (CS2.out _).mono ?_; rintro e wz ⟨rfl, hb⟩
          have HBz := Lib.hid (HBy.out.trans (hb.mono HBy.out.size))
          clear hb
          go_wp2_with fail
          refine hK.out _ _ ?_ (fun hHeld => ?_)
          · clear hK K; exact HSQ.out _ HBz.out
          clear hK K
          try simp only [List.getElem_toArray, List.getElem_cons_succ, List.getElem_cons_zero, Act.put, List.setIfInBounds_toArray, List.set_cons_zero, List.set_cons_succ]
          refine wpAnyH_take (i := 14) (v := ?_) rfl (by kernel_rfl) (by kernel_rfl) (by kernel_rfl) (fun _ _ _ h => h) (Or.inl ⟨by rfl, ?_⟩) (by assumption) ?_
          rotate_left
          · intro w hSw; (try dsimp only at hSw); go_simp; (try (with_reducible rfl))
          try simp only [List.getElem_toArray, List.getElem_cons_succ, List.getElem_cons_zero, Act.put, List.setIfInBounds_toArray, List.set_cons_zero, List.set_cons_succ]
          refine wpAnyH_ready (rs := [15]) (by kernel_rfl) (by simp) ?_
          refine AllReadyH.cons rfl (fun K hK => ?_) AllReadyH.nil
          go_simp
          go_at_call 19; refine (CSz.out _).mono ?_; rintro e w' ⟨rfl, rfl⟩
          go_wp2_with fail
          refine hK.out _ _ ?_ (fun hHeld => ?_)
          · clear hK K; exact HSQ.out _ HBz.out
          clear hK K
          try simp only [List.getElem_toArray, List.getElem_cons_succ, List.getElem_cons_zero, Act.put, List.setIfInBounds_toArray, List.set_cons_zero, List.set_cons_succ]
          refine wpAnyH_take (i := 17) (v := ?_) rfl (by kernel_rfl) (by kernel_rfl) (by kernel_rfl) (fun _ _ _ h => h) (Or.inl ⟨by rfl, ?_⟩) (by assumption) ?_
          rotate_left
          · intro w hSw; (try dsimp only at hSw); go_simp; (try (with_reducible rfl))
          try simp only [List.getElem_toArray, List.getElem_cons_succ, List.getElem_cons_zero, Act.put, List.setIfInBounds_toArray, List.set_cons_zero, List.set_cons_succ]
          refine wpAnyH_done (by kernel_rfl) ?_ _
          obtain ⟨ws, hws⟩ : ∃ W, W = wz := ⟨_, rfl⟩
          subst hws
          have HBs := Lib.hid (HBk.out.trans (HBz.out.mono HBk.out.size))
          clear hHeld HBy HBz HBd HSQ
          clear c0 c1 c2 c3 c4 c5 c6 d0 d1
          go_wp2
          go_roundw
          case rel => exact ⟨b + 1, by omega, by go_num, HBs.out⟩
          case measure => simp [intOf]; omega
        · obtain rfl : a = b := by omega
          go_wp2
          go_roundw
          case rel => exact ⟨a + 1, by omega, by go_num, HBk.out⟩
          case measure => simp [intOf]; omega
    · obtain rfl : n = a := by omega
      go_wp2_with fail
      refine (CCP.out _ (HK.out _ HBA.out).2.2.2).mono ?_
      rintro e w8 ⟨⟨g8, cap8, rfl, hrr⟩, hb⟩
      have HRR := Lib.hid hrr
      have HB8 := Lib.hid (HBA.out.trans (hb.mono HBA.out.size))
      clear hrr hb HBA HBa HCP c0 c1 c2 c3 c4 c5 c6 d0 d1
      go_upto_region 23 with (fail)
      obtain ⟨W22, hW22⟩ : ∃ W, w8.alloc (.cells #[.slice (some ⟨g8, 0, none⟩) n cap8, .int .i64 rl, .int .i64 rh, .int .i64 xl, .int .i64 xh, .int .i64 yl, .int .i64 yh] 39) = W := ⟨_, rfl⟩
      have KW : Hid (Bk W22 w8.heap.size 39 #[.slice (some ⟨g8, 0, none⟩) n cap8, .int .i64 rl, .int .i64 rh, .int .i64 xl, .int .i64 xh, .int .i64 yl, .int .i64 yh]) := Lib.hid (by rw [← hW22]; exact Bk.new _ _ _)
      have hb22 : Below w8.heap.size w8 W22 := by rw [← hW22]; exact (Below.refl _ _).alloc (Nat.le_refl _) _
      have HB22 := Lib.hid (HB8.out.trans (hb22.mono HB8.out.size))
      rw [hW22]
      obtain ⟨W23, hW23⟩ : ∃ W, (W22.setCell ⟨w8.heap.size, 1, none⟩ (.int .i64 ql)).setCell ⟨w8.heap.size, 2, none⟩ (.int .i64 qh) = W := ⟨_, rfl⟩
      have KV : Hid (Bk W23 w8.heap.size 39 #[.slice (some ⟨g8, 0, none⟩) n cap8, .int .i64 ql, .int .i64 qh, .int .i64 xl, .int .i64 xh, .int .i64 yl, .int .i64 yh]) := Lib.hid (by rw [← hW23]; exact (KW.out.set_ 1 _).set_ 2 _)
      have hb23 : Below w8.heap.size w8 W23 := by rw [← hW23]; exact (hb22.setCell (Nat.le_refl _) _).setCell (Nat.le_refl _) _
      have HB23 := Lib.hid (HB8.out.trans (hb23.mono HB8.out.size))
      have HR23 : Hid (RdR W23 g8 n ps) := Lib.hid (HRR.out.below hb23)
      obtain ⟨g12, hg12⟩ : ∃ g, w8.heap.size = g := ⟨_, rfl⟩
      rw [hg12] at KW KV hW23 ⊢
      have f1 : W22.frozen? ⟨g12, 1, none⟩ = false := KW.out.frozen 1
      have f2 : W22.frozen? ⟨g12, 2, none⟩ = false := KW.out.frozen 2
      have y1 : W22.cell? ⟨g12, 1, none⟩ = some (.int .i64 rl) := by rw [KW.out.cell]; rfl
      have y2 : W22.cell? ⟨g12, 2, none⟩ = some (.int .i64 rh) := by rw [KW.out.cell]; rfl
      clear hW22 hb22 hb23 hg12 HRR HB8
      obtain ⟨⟨c0, c1, c2, c3, c4, c5, c6⟩, d0, d1⟩ := (HK.out _ (HB22.out)).1
      go_upto_region 24 with (fail)
      try rw [hW23]
      clear c0 c1 c2 c3 c4 c5 c6 d0 d1 f1 f2 y1 y2 KW hW23 HB22
      obtain ⟨⟨c0, c1, c2, c3, c4, c5, c6⟩, d0, d1⟩ := (HK.out _ (HB23.out)).1
      have z0 : W23.cell? ⟨g12, 0, none⟩ = some (.slice (some ⟨g8, 0, none⟩) n cap8) := by rw [KV.out.cell]; rfl
      have z1 : W23.cell? ⟨g12, 1, none⟩ = some (.int .i64 ql) := by rw [KV.out.cell]; rfl
      have z2 : W23.cell? ⟨g12, 2, none⟩ = some (.int .i64 qh) := by rw [KV.out.cell]; rfl
      have z3 : W23.cell? ⟨g12, 3, none⟩ = some (.int .i64 xl) := by rw [KV.out.cell]; rfl
      have z4 : W23.cell? ⟨g12, 4, none⟩ = some (.int .i64 xh) := by rw [KV.out.cell]; rfl
      have z5 : W23.cell? ⟨g12, 5, none⟩ = some (.int .i64 yl) := by rw [KV.out.cell]; rfl
      have z6 : W23.cell? ⟨g12, 6, none⟩ = some (.int .i64 yh) := by rw [KV.out.cell]; rfl
      go_wp2_with fail
      refine (CKW.out _ _ _ HR23.out).mono ?_
      rintro e w24 ⟨rfl, hb⟩
      have HB24 := Lib.hid (HB23.out.trans (hb.mono HB23.out.size))
      clear hb HB23 c0 c1 c2 c3 c4 c5 c6 d0 d1
      go_wp2
      go_ret
      exact ⟨rfl, (HK.out _ HB24.out).2.1⟩

set_option maxRecDepth 100000 in
set_option maxHeartbeats 4000000 in
theorem enclosed_same (A : Option Addr) (n c : Nat) (rl rh xl xh yl yh : Int) (ps : List (Int × Int)) (cx cy : Int) (w : World) (hl : LaidSides w) (hr : RdP w A n ps) (hn : n ≤ 20) (v0 v1 v2 v3 v4 v5 ql qh : Int)
    (hE : circE ps rl rh xl xh yl yh = 0) (hx : xl ≤ cx ∧ cx ≤ xh) (hy : yl ≤ cy ∧ cy ≤ yh) (hm : misI rl rh ps (cx, cy) = -1)
    (hvx : v2 ≤ cx ∧ cx ≤ v3) (hvy : v4 ≤ cy ∧ cy ≤ v5) (hv0 : cx = v0) (hv1 : v1 ≤ cy)
    (hql : (if 0 < rl - 1 then rl - 1 else 0) = ql) (hqh : (if rh + 1 < 1000 then rh + 1 else 1000) = qh)
    (CER : Hid (∀ W, RdP W A n ps → Calls Tryd.prog 15 #[.agg #[.slice A n c, .int .i64 rl, .int .i64 rh, .int .i64 xl, .int .i64 xh, .int .i64 yl, .int .i64 yh]] W fun e w' => e = .returned (.int .i64 0) ∧ Below W.heap.size W w'))
    (CCP : Hid (∀ W, RdP W A n ps → Calls Tryd.prog 13 #[.agg #[.slice A n c, .int .i64 rl, .int .i64 rh, .int .i64 xl, .int .i64 xh, .int .i64 yl, .int .i64 yh]] W fun e w' => (∃ g cap, e = .returned (.agg #[.slice (some ⟨g, 0, none⟩) n cap, .int .i64 rl, .int .i64 rh, .int .i64 xl, .int .i64 xh, .int .i64 yl, .int .i64 yh]) ∧ RdR w' g n ps) ∧ Below W.heap.size W w'))
    (CCK : Hid (∀ g cap W, RdR W g n ps → Calls Tryd.prog 12 #[.agg #[.slice (some ⟨g, 0, none⟩) n cap, .int .i64 rl, .int .i64 rh, .int .i64 xl, .int .i64 xh, .int .i64 yl, .int .i64 yh], .agg #[.int .i64 cx, .int .i64 cy]] W fun e w' => e = .returned (.tuple #[.int .i64 0, .int .i64 0]) ∧ Below W.heap.size W w'))
    (CCT : Hid (∀ g cap W, RdR W g n ps → Calls Tryd.prog 14 #[.agg #[.slice (some ⟨g, 0, none⟩) n cap, .int .i64 rl, .int .i64 rh, .int .i64 xl, .int .i64 xh, .int .i64 yl, .int .i64 yh]] W fun e w' => e = .returned (.tuple #[.agg #[.int .i64 v0, .int .i64 v1, .int .i64 v2, .int .i64 v3, .int .i64 v4, .int .i64 v5], .int .i64 0]) ∧ Below W.heap.size W w'))
    (CKW : Hid (∀ g cap W, RdR W g n ps → Calls Tryd.prog 12 #[.agg #[.slice (some ⟨g, 0, none⟩) n cap, .int .i64 ql, .int .i64 qh, .int .i64 xl, .int .i64 xh, .int .i64 yl, .int .i64 yh], .agg #[.int .i64 cx, .int .i64 cy]] W fun e w' => e = .returned (.tuple #[.int .i64 0, .int .i64 0]) ∧ Below W.heap.size W w')) :
    Calls Tryd.prog 5 #[.agg #[.slice A n c, .int .i64 rl, .int .i64 rh, .int .i64 xl, .int .i64 xh, .int .i64 yl, .int .i64 yh], .agg #[.int .i64 cx, .int .i64 cy]] w fun e w' => e = .returned (.bool true) ∧ Below w.heap.size w w' := by
  obtain ⟨W1, hW1⟩ : ∃ W, (w.alloc (.cells #[.slice A n c, .int .i64 rl, .int .i64 rh, .int .i64 xl, .int .i64 xh, .int .i64 yl, .int .i64 yh] 39)).alloc (.cells #[.int .i64 cx, .int .i64 cy] 30) = W := ⟨_, rfl⟩
  have hb1 : Below w.heap.size w W1 := by rw [← hW1]; exact ((Below.refl _ _).alloc (Nat.le_refl _) _).alloc (by simp) _
  have k0 : Bk W1 w.heap.size 39 #[.slice A n c, .int .i64 rl, .int .i64 rh, .int .i64 xl, .int .i64 xh, .int .i64 yl, .int .i64 yh] := by rw [← hW1]; exact (Bk.new w 39 #[.slice A n c, .int .i64 rl, .int .i64 rh, .int .i64 xl, .int .i64 xh, .int .i64 yl, .int .i64 yh]).alloc _
  have k1 : Bk W1 (w.heap.size + 1) 30 #[.int .i64 cx, .int .i64 cy] := by
    rw [← hW1]
    have := Bk.new (w.alloc (.cells #[.slice A n c, .int .i64 rl, .int .i64 rh, .int .i64 xl, .int .i64 xh, .int .i64 yl, .int .i64 yh] 39)) 30 #[.int .i64 cx, .int .i64 cy]
    simpa using this
  have HK : Hid (∀ W, Below W1.heap.size W1 W → ((W.cell? ⟨w.heap.size, 0, none⟩ = some (.slice A n c) ∧ W.cell? ⟨w.heap.size, 1, none⟩ = some (.int .i64 rl) ∧ W.cell? ⟨w.heap.size, 2, none⟩ = some (.int .i64 rh) ∧ W.cell? ⟨w.heap.size, 3, none⟩ = some (.int .i64 xl) ∧ W.cell? ⟨w.heap.size, 4, none⟩ = some (.int .i64 xh) ∧ W.cell? ⟨w.heap.size, 5, none⟩ = some (.int .i64 yl) ∧ W.cell? ⟨w.heap.size, 6, none⟩ = some (.int .i64 yh)) ∧ W.cell? ⟨w.heap.size + 1, 0, none⟩ = some (.int .i64 cx) ∧ W.cell? ⟨w.heap.size + 1, 1, none⟩ = some (.int .i64 cy)) ∧ Below w.heap.size w W ∧ LaidSides W ∧ RdP W A n ps) := Lib.hid (fun W hb => by
    have h0 := k0.later hb
    have h1 := k1.later hb
    have hb2 := hb1.trans (hb.mono hb1.size)
    exact ⟨⟨⟨by rw [h0.cell]; rfl, by rw [h0.cell]; rfl, by rw [h0.cell]; rfl, by rw [h0.cell]; rfl, by rw [h0.cell]; rfl, by rw [h0.cell]; rfl, by rw [h0.cell]; rfl⟩, by rw [h1.cell]; rfl, by rw [h1.cell]; rfl⟩, hb2, hl.later hb2, hr.below hb2⟩)
  have hnI : ¬ (20 : Int) < (n : Int) := by omega
  obtain ⟨q1, q2, q3, q4, q5⟩ := circ_ok hE
  have hcb : (-1000 ≤ cx ∧ cx ≤ 1000) ∧ -1000 ≤ cy ∧ cy ≤ 1000 := by omega
  have hn0 : 0 < n := by rw [← hr.1]; exact q1.1
  have HP : Hid (∀ j, j < n → (-1000 ≤ (ps.getD j (0, 0)).1 ∧ (ps.getD j (0, 0)).1 ≤ 1000) ∧ -1000 ≤ (ps.getD j (0, 0)).2 ∧ (ps.getD j (0, 0)).2 ≤ 1000) := Lib.hid (fun j hj => q2 j (by rw [hr.1]; exact hj))
  have CX := Lib.hid (fun W => within_any cx xl xh W)
  have CY := Lib.hid (fun W => within_any cy yl yh W)
  have CVX := Lib.hid (fun W => within_any cx v2 v3 W)
  have CVY := Lib.hid (fun W => within_any cy v4 v5 W)
  rw [fromB_one.2 hx] at CX
  rw [fromB_one.2 hy] at CY
  rw [fromB_one.2 hvx] at CVX
  rw [fromB_one.2 hvy] at CVY
  have s3 := sq_bd (x := rl) (m := 1000) (by omega)
  have s4 := sq_bd (x := rh) (m := 1000) (by omega)
  have s5 := sq_mono q3.1 q3.2.1
  have HS0 : ∀ j, j < n → rl * rl ≤ sqF (cx, cy) (ps.getD j (0, 0)) ∧ sqF (cx, cy) (ps.getD j (0, 0)) ≤ rh * rh := fun j hj => by
    rw [sqF_comm]; exact mis_sq hm (by rw [hr.1]; exact hj)
  obtain ⟨r1, hr1⟩ : ∃ z, rl * rl = z := ⟨_, rfl⟩
  obtain ⟨r2, hr2⟩ : ∃ z, rh * rh = z := ⟨_, rfl⟩
  rw [hr1] at s3 HS0 s5
  rw [hr2] at s4 HS0 s5
  have HS := Lib.hid HS0
  have hw1 : IntKind.i64.wrap (rl * rl) = r1 := by rw [hr1]; exact IntWalk.i64_in _ (by omega)
  have hw2 : IntKind.i64.wrap (rh * rh) = r2 := by rw [hr2]; exact IntWalk.i64_in _ (by omega)
  obtain ⟨most, hmost⟩ : ∃ z, r2 - r1 = z := ⟨_, rfl⟩
  have hw3 : IntKind.i64.wrap (r2 - r1) = most := by rw [hmost]; exact IntWalk.i64_in _ (by omega)
  have hw4 : IntKind.i64.wrap (rl - 1) = rl - 1 := IntWalk.i64_in _ (by omega)
  have hw5 : IntKind.i64.wrap (rh + 1) = rh + 1 := IntWalk.i64_in _ (by omega)
  obtain ⟨rm, hrm⟩ : ∃ z, rl - 1 = z := ⟨_, rfl⟩
  obtain ⟨rp, hrp⟩ : ∃ z, rh + 1 = z := ⟨_, rfl⟩
  have hw6 : IntKind.i64.wrap (rl - 1) = rm := by rw [← hrm]; exact hw4
  have hw7 : IntKind.i64.wrap (rh + 1) = rp := by rw [← hrp]; exact hw5
  rw [hrm] at hql
  rw [hrp] at hqh
  clear hw4 hw5 hrm hrp
  have hlt0 : ¬ cx < v0 := by omega
  have hne0 : (cx == v0) = true := by simp; exact hv0
  have hlt1 : ¬ cy < v1 := by omega
  clear hv0
  clear hE hx hy hm hvx hvy q1 q2 q3 q4 q5 hr1 hr2 HS0
  clear hr hl hb1 k0 k1
  go_enter Tryd.func5, Tryd.ntmps5
  go_upto_region 1 with (fail)
  try rw [hW1]
  clear hW1
  obtain ⟨⟨c0, c1, c2, c3, c4, c5, c6⟩, d0, d1⟩ := (HK.out _ (Below.refl _ _)).1
  go_wp2_with fail
  refine (awake_any _ (HK.out _ (Below.refl _ _)).2.2.1).mono ?_
  rintro e w2 ⟨rfl, hb2⟩
  have HB2 : Hid (Below W1.heap.size W1 w2) := Lib.hid hb2
  clear hb2 c0 c1 c2 c3 c4 c5 c6 d0 d1
  obtain ⟨⟨c0, c1, c2, c3, c4, c5, c6⟩, d0, d1⟩ := (HK.out _ (HB2.out)).1
  go_wp2_with fail
  refine (CER.out _ (HK.out _ HB2.out).2.2.2).mono ?_
  rintro e w3 ⟨rfl, hb⟩
  have HB3 := Lib.hid (HB2.out.trans (hb.mono HB2.out.size))
  clear hb HB2 c0 c1 c2 c3 c4 c5 c6 d0 d1
  obtain ⟨⟨c0, c1, c2, c3, c4, c5, c6⟩, d0, d1⟩ := (HK.out _ (HB3.out)).1
  go_wp2_with fail
  refine wp_region_held_drew (S := (fun W : World => ((W.cell? ⟨w.heap.size, 0, none⟩ = some (.slice A n c) ∧ W.cell? ⟨w.heap.size, 1, none⟩ = some (.int .i64 rl) ∧ W.cell? ⟨w.heap.size, 2, none⟩ = some (.int .i64 rh) ∧ W.cell? ⟨w.heap.size, 3, none⟩ = some (.int .i64 xl) ∧ W.cell? ⟨w.heap.size, 4, none⟩ = some (.int .i64 xh) ∧ W.cell? ⟨w.heap.size, 5, none⟩ = some (.int .i64 yl) ∧ W.cell? ⟨w.heap.size, 6, none⟩ = some (.int .i64 yh)) ∧ W.cell? ⟨w.heap.size + 1, 0, none⟩ = some (.int .i64 cx) ∧ W.cell? ⟨w.heap.size + 1, 1, none⟩ = some (.int .i64 cy)))) (by kernel_rfl) ?_ ?_
  · exact (HK.out _ (HB3.out.drew)).1
  intro hHeld
  refine wpAnyH_take (i := 0) (v := ?_) rfl (by kernel_rfl) (by kernel_rfl) (by kernel_rfl) (fun _ _ _ h => h) (Or.inl ⟨by rfl, ?_⟩) (by assumption) ?_
  rotate_left
  · intro w hSw; (try dsimp only at hSw); go_simp; (try (with_reducible rfl))
  try simp only [List.getElem_toArray, List.getElem_cons_succ, List.getElem_cons_zero, Act.put, List.setIfInBounds_toArray, List.set_cons_zero, List.set_cons_succ]
  refine wpAnyH_take (i := 2) (v := ?_) rfl (by kernel_rfl) (by kernel_rfl) (by kernel_rfl) (fun _ _ _ h => h) (Or.inl ⟨by rfl, ?_⟩) (by assumption) ?_
  rotate_left
  · intro w hSw; (try dsimp only at hSw); go_simp; (try (with_reducible rfl))
  try simp only [List.getElem_toArray, List.getElem_cons_succ, List.getElem_cons_zero, Act.put, List.setIfInBounds_toArray, List.set_cons_zero, List.set_cons_succ]
  refine wpAnyH_ready (rs := [1]) (by kernel_rfl) (by simp) ?_
  refine AllReadyH.cons rfl (fun K hK => ?_) AllReadyH.nil
  go_simp
  go_at_call 13; refine (CCP.out _ (HK.out _ HB3.out.drew).2.2.2).mono ?_; rintro e wy ⟨⟨g, cap, rfl, hrr⟩, hb⟩
  have HBy := Lib.hid (HB3.out.drew.trans (hb.mono HB3.out.drew.size))
  have HRR := Lib.hid hrr
  clear hrr hb
  go_wp2_with fail
  refine hK.out _ _ ?_ (fun hHeld => ?_)
  · clear hK K; exact (HK.out _ HBy.out).1
  clear hK K
  try simp only [List.getElem_toArray, List.getElem_cons_succ, List.getElem_cons_zero, Act.put, List.setIfInBounds_toArray, List.set_cons_zero, List.set_cons_succ]
  refine wpAnyH_ready (rs := [3]) (by kernel_rfl) (by simp) ?_
  refine AllReadyH.cons rfl (fun K hK => ?_) AllReadyH.nil
  go_simp
  go_at_call 12; refine (CCK.out _ _ _ HRR.out).mono ?_; rintro e wz ⟨rfl, hb⟩
  have HBz := Lib.hid (HBy.out.trans (hb.mono HBy.out.size))
  clear hb
  go_wp2_with fail
  refine hK.out _ _ ?_ (fun hHeld => ?_)
  · clear hK K; exact (HK.out _ HBz.out).1
  clear hK K
  try simp only [List.getElem_toArray, List.getElem_cons_succ, List.getElem_cons_zero, Act.put, List.setIfInBounds_toArray, List.set_cons_zero, List.set_cons_succ]
  refine wpAnyH_take (i := 4) (v := ?_) rfl (by kernel_rfl) (by kernel_rfl) (by kernel_rfl) (fun _ _ _ h => h) (Or.inl ⟨by rfl, ?_⟩) (by assumption) ?_
  rotate_left
  · intro w hSw; (try dsimp only at hSw); go_simp; (try (with_reducible rfl))
  try simp only [List.getElem_toArray, List.getElem_cons_succ, List.getElem_cons_zero, Act.put, List.setIfInBounds_toArray, List.set_cons_zero, List.set_cons_succ]
  refine wpAnyH_take (i := 5) (v := ?_) rfl (by kernel_rfl) (by kernel_rfl) (by kernel_rfl) (fun _ _ _ h => h) (Or.inl ⟨by rfl, ?_⟩) (by assumption) ?_
  rotate_left
  · intro w hSw; (try dsimp only at hSw); go_simp; (try (with_reducible rfl))
  try simp only [List.getElem_toArray, List.getElem_cons_succ, List.getElem_cons_zero, Act.put, List.setIfInBounds_toArray, List.set_cons_zero, List.set_cons_succ]
  refine wpAnyH_take (i := 6) (v := ?_) rfl (by kernel_rfl) (by kernel_rfl) (by kernel_rfl) (fun _ _ _ h => h) (Or.inl ⟨by rfl, ?_⟩) (by assumption) ?_
  rotate_left
  · intro w hSw; (try dsimp only at hSw); go_simp; (try (with_reducible rfl))
  try simp only [List.getElem_toArray, List.getElem_cons_succ, List.getElem_cons_zero, Act.put, List.setIfInBounds_toArray, List.set_cons_zero, List.set_cons_succ]
  refine wpAnyH_take (i := 7) (v := ?_) rfl (by kernel_rfl) (by kernel_rfl) (by kernel_rfl) (fun _ _ _ h => h) (Or.inl ⟨by rfl, ?_⟩) (by assumption) ?_
  rotate_left
  · intro w hSw; (try dsimp only at hSw); go_simp; (try (with_reducible rfl))
  try simp only [List.getElem_toArray, List.getElem_cons_succ, List.getElem_cons_zero, Act.put, List.setIfInBounds_toArray, List.set_cons_zero, List.set_cons_succ]
  refine wpAnyH_take (i := 8) (v := ?_) rfl (by kernel_rfl) (by kernel_rfl) (by kernel_rfl) (fun _ _ _ h => h) (Or.inl ⟨by rfl, ?_⟩) (by assumption) ?_
  rotate_left
  · intro w hSw; (try dsimp only at hSw); go_simp; (try (with_reducible rfl))
  try simp only [List.getElem_toArray, List.getElem_cons_succ, List.getElem_cons_zero, Act.put, List.setIfInBounds_toArray, List.set_cons_zero, List.set_cons_succ]
  refine wpAnyH_done (by kernel_rfl) ?_ _
  obtain ⟨w4, hw4⟩ : ∃ W, W = wz := ⟨_, rfl⟩
  subst hw4
  have HB4 := Lib.hid HBz.out
  clear hHeld HBy HBz HRR HB3 c0 c1 c2 c3 c4 c5 c6 d0 d1
  obtain ⟨⟨c0, c1, c2, c3, c4, c5, c6⟩, d0, d1⟩ := (HK.out _ (HB4.out)).1
  go_wp2_with fail
  refine (CX.out _).mono ?_
  rintro e w' ⟨rfl, rfl⟩
  go_wp2_with fail
  refine (CY.out _).mono ?_
  rintro e w' ⟨rfl, rfl⟩
  go_wp2_with fail
  refine (CCP.out _ (HK.out _ HB4.out).2.2.2).mono ?_
  rintro e w5 ⟨⟨g5, cap5, rfl, hrr⟩, hb⟩
  have HRR := Lib.hid hrr
  have HB5 := Lib.hid (HB4.out.trans (hb.mono HB4.out.size))
  clear hrr hb HB4 c0 c1 c2 c3 c4 c5 c6 d0 d1
  go_wp2_with fail
  refine (CCT.out _ _ _ HRR.out).mono ?_
  rintro e w6 ⟨rfl, hb⟩
  have HB6 := Lib.hid (HB5.out.trans (hb.mono HB5.out.size))
  clear hb HB5 HRR
  go_upto_region 11 with (fail)
  obtain ⟨W7, hW7⟩ : ∃ W, w6.alloc (.cells #[.int .i64 v0, .int .i64 v1, .int .i64 v2, .int .i64 v3, .int .i64 v4, .int .i64 v5] 44) = W := ⟨_, rfl⟩
  have HX7 : Hid (Bk W7 w6.heap.size 44 #[.int .i64 v0, .int .i64 v1, .int .i64 v2, .int .i64 v3, .int .i64 v4, .int .i64 v5]) := Lib.hid (by rw [← hW7]; exact Bk.new _ _ _)
  have HB7 : Hid (Below W1.heap.size W1 W7) := Lib.hid (by rw [← hW7]; exact HB6.out.alloc HB6.out.size _)
  rw [hW7]
  obtain ⟨g7, hg7⟩ : ∃ g, w6.heap.size = g := ⟨_, rfl⟩
  rw [hg7] at HX7 ⊢
  clear hW7 hg7 HB6
  obtain ⟨⟨c0, c1, c2, c3, c4, c5, c6⟩, d0, d1⟩ := (HK.out _ (HB7.out)).1
  have x0 : W7.cell? ⟨g7, 0, none⟩ = some (.int .i64 v0) := by rw [HX7.out.cell]; rfl
  have x1 : W7.cell? ⟨g7, 1, none⟩ = some (.int .i64 v1) := by rw [HX7.out.cell]; rfl
  have x2 : W7.cell? ⟨g7, 2, none⟩ = some (.int .i64 v2) := by rw [HX7.out.cell]; rfl
  have x3 : W7.cell? ⟨g7, 3, none⟩ = some (.int .i64 v3) := by rw [HX7.out.cell]; rfl
  have x4 : W7.cell? ⟨g7, 4, none⟩ = some (.int .i64 v4) := by rw [HX7.out.cell]; rfl
  have x5 : W7.cell? ⟨g7, 5, none⟩ = some (.int .i64 v5) := by rw [HX7.out.cell]; rfl
  go_wp2_with fail
  refine (CVX.out _).mono ?_
  rintro e w' ⟨rfl, rfl⟩
  go_wp2_with fail
  refine (CVY.out _).mono ?_
  rintro e w' ⟨rfl, rfl⟩

  obtain ⟨ad, hAd, hadb, hcp⟩ := (HK.out _ HB7.out).2.2.2.2 hn0
  subst hAd
  have HCP : Hid (∀ W, Below W7.heap.size W7 W → ∀ j, j < n → W.cell? (ad.add (j * 2)) = some (.int .i64 (ps.getD j (0, 0)).1) ∧ W.cell? ((ad.add (j * 2)).add 1) = some (.int .i64 (ps.getD j (0, 0)).2)) := Lib.hid (fun W hb j hj => ⟨(hb.cell (p := ad.add (j * 2)) (by rw [addBlock]; exact hadb)).trans (hcp j hj).1, (hb.cell (p := (ad.add (j * 2)).add 1) (by rw [addBlock, addBlock]; exact hadb)).trans (hcp j hj).2⟩)
  clear hcp hadb
  go_wp2
  go_loopw [10] (fun i wr => ∃ a : Nat, a ≤ n ∧ i = .int .i64 (a : Int) ∧ Hid (Below W7.heap.size W7 wr)) (fun i _ => n - (intOf i).toNat)
  case atStart => exact ⟨0, Nat.zero_le _, rfl, Below.refl _ _⟩
  case round =>
    clear c0 c1 c2 c3 c4 c5 c6 d0 d1
    obtain ⟨a, ha, rfl, HBa⟩ := hrel
    have HBA := Lib.hid (HB7.out.trans (HBa.out.mono HB7.out.size))
    obtain ⟨⟨c0, c1, c2, c3, c4, c5, c6⟩, d0, d1⟩ := (HK.out _ (HBA.out)).1
    by_cases hlt : a < n
    · have haI : (a : Int) < (n : Int) := by omega
      go_wp2
      go_loopw [11] (fun i wr => ∃ b : Nat, b ≤ a ∧ i = .int .i64 (b : Int) ∧ Hid (Below W7.heap.size W7 wr)) (fun i _ => a - (intOf i).toNat)
      case atStart => exact ⟨0, Nat.zero_le _, rfl, HBa.out⟩
      case round =>
        clear c0 c1 c2 c3 c4 c5 c6 d0 d1 HBa HBA
        obtain ⟨b, hbn, rfl, HBk⟩ := hrel
        have HBA := Lib.hid (HB7.out.trans (HBk.out.mono HB7.out.size))
        obtain ⟨⟨c0, c1, c2, c3, c4, c5, c6⟩, d0, d1⟩ := (HK.out _ (HBA.out)).1
        by_cases hltb : b < a
        · have hbI : (b : Int) < (a : Int) := by omega
          have hbnI : (b : Int) < (n : Int) := by omega
          have hbnN : b < n := by omega
          have HSQ : Hid (∀ W, Below wr.heap.size wr W → (W.cell? ⟨w.heap.size, 0, none⟩ = some (.slice (some ad) n c)) ∧ (W.cell? ⟨w.heap.size + 1, 0, none⟩ = some (.int .i64 cx) ∧ W.cell? ⟨w.heap.size + 1, 1, none⟩ = some (.int .i64 cy)) ∧ (W.cell? (ad.add (a * 2)) = some (.int .i64 (ps.getD a (0, 0)).1) ∧ W.cell? ((ad.add (a * 2)).add 1) = some (.int .i64 (ps.getD a (0, 0)).2)) ∧ W.cell? (ad.add (b * 2)) = some (.int .i64 (ps.getD b (0, 0)).1) ∧ W.cell? ((ad.add (b * 2)).add 1) = some (.int .i64 (ps.getD b (0, 0)).2)) := Lib.hid (fun W hb => by
            have hb7 := HBk.out.trans (hb.mono HBk.out.size)
            have h := (HK.out W (HB7.out.trans (hb7.mono HB7.out.size))).1
            exact ⟨h.1.1, h.2, HCP.out W hb7 a hlt, HCP.out W hb7 b hbnN⟩)
          have hpa := HP.out a hlt
          have hpb := HP.out b hbnN
          have hsa := HS.out a hlt
          have hsb := HS.out b hbnN
          have hppa : ps.getD a (0, 0) = ((ps.getD a (0, 0)).1, (ps.getD a (0, 0)).2) := rfl
          have hppb : ps.getD b (0, 0) = ((ps.getD b (0, 0)).1, (ps.getD b (0, 0)).2) := rfl
          rw [hppa] at hsa
          rw [hppb] at hsb
          obtain ⟨ix, hix⟩ : ∃ z, (ps.getD a (0, 0)).1 = z := ⟨_, rfl⟩
          obtain ⟨iy, hiy⟩ : ∃ z, (ps.getD a (0, 0)).2 = z := ⟨_, rfl⟩
          obtain ⟨kx, hkx⟩ : ∃ z, (ps.getD b (0, 0)).1 = z := ⟨_, rfl⟩
          obtain ⟨ky, hky⟩ : ∃ z, (ps.getD b (0, 0)).2 = z := ⟨_, rfl⟩
          obtain ⟨pi, hpi⟩ : ∃ z, ad.add (a * 2) = z := ⟨_, rfl⟩
          obtain ⟨pi1, hpi1⟩ : ∃ z, pi.add 1 = z := ⟨_, rfl⟩
          obtain ⟨pk, hpk⟩ : ∃ z, ad.add (b * 2) = z := ⟨_, rfl⟩
          obtain ⟨pk1, hpk1⟩ : ∃ z, pk.add 1 = z := ⟨_, rfl⟩
          have addZi : pi.add 0 = pi := addZ pi
          have addZk : pk.add 0 = pk := addZ pk
          rw [hix, hiy, hkx, hky, hpi, hpk, hpi1, hpk1] at HSQ
          rw [hix, hiy] at hpa hsa
          rw [hkx, hky] at hpb hsb
          have CS1 := Lib.hid (fun W => square_any cx cy ix iy W (by omega))
          have CS2 := Lib.hid (fun W => square_any cx cy kx ky W (by omega))
          obtain ⟨D1, hD1⟩ : ∃ z, sqF (cx, cy) (ix, iy) = z := ⟨_, rfl⟩
          obtain ⟨D2, hD2⟩ : ∃ z, sqF (cx, cy) (kx, ky) = z := ⟨_, rfl⟩
          rw [hD1] at CS1 hsa
          rw [hD2] at CS2 hsb
          have ww1 : IntKind.i64.wrap (D1 - D2) = D1 - D2 := IntWalk.i64_in _ (by omega)
          have CSz := Lib.hid (fun W => size_any (D1 - D2) W (by omega))
          obtain ⟨sz, hsz⟩ : ∃ z, (if D1 - D2 < 0 then -(D1 - D2) else D1 - D2) = z := ⟨_, rfl⟩
          rw [hsz] at CSz
          have hgt : ¬ most < sz := by rw [← hsz]; split <;> omega
          have HBd := Lib.hid ((Below.refl wr.heap.size wr).drew)
          clear hix hiy hkx hky hpa hpb hsa hsb hppa hppb hD1 hD2 hsz
          go_wp2_with fail
          refine wp_region_held_drew (S := (fun W : World => (W.cell? ⟨w.heap.size, 0, none⟩ = some (.slice (some ad) n c)) ∧ (W.cell? ⟨w.heap.size + 1, 0, none⟩ = some (.int .i64 cx) ∧ W.cell? ⟨w.heap.size + 1, 1, none⟩ = some (.int .i64 cy)) ∧ (W.cell? pi = some (.int .i64 ix) ∧ W.cell? pi1 = some (.int .i64 iy)) ∧ W.cell? pk = some (.int .i64 kx) ∧ W.cell? pk1 = some (.int .i64 ky))) (by kernel_rfl) ?_ ?_
          · exact HSQ.out _ HBd.out
          intro hHeld
          refine wpAnyH_take (i := 0) (v := ?_) rfl (by kernel_rfl) (by kernel_rfl) (by kernel_rfl) (fun _ _ _ h => h) (Or.inl ⟨by rfl, ?_⟩) (by assumption) ?_
          rotate_left
          · intro w hSw; (try dsimp only at hSw); go_simp; (try (with_reducible rfl))
          try simp only [List.getElem_toArray, List.getElem_cons_succ, List.getElem_cons_zero, Act.put, List.setIfInBounds_toArray, List.set_cons_zero, List.set_cons_succ]
          refine wpAnyH_take (i := 1) (v := ?_) rfl (by kernel_rfl) (by kernel_rfl) (by kernel_rfl) (fun _ _ _ h => h) (Or.inl ⟨by rfl, ?_⟩) (by assumption) ?_
          rotate_left
          · intro w hSw; (try dsimp only at hSw); go_simp; (try (with_reducible rfl))
          try simp only [List.getElem_toArray, List.getElem_cons_succ, List.getElem_cons_zero, Act.put, List.setIfInBounds_toArray, List.set_cons_zero, List.set_cons_succ]
          refine wpAnyH_take (i := 2) (v := ?_) rfl (by kernel_rfl) (by kernel_rfl) (by kernel_rfl) (fun _ _ _ h => h) (Or.inl ⟨by rfl, ?_⟩) (by assumption) ?_
          rotate_left
          · intro w hSw; (try dsimp only at hSw); go_simp; (try (with_reducible rfl))
          try simp only [List.getElem_toArray, List.getElem_cons_succ, List.getElem_cons_zero, Act.put, List.setIfInBounds_toArray, List.set_cons_zero, List.set_cons_succ]
          refine wpAnyH_take (i := 3) (v := ?_) rfl (by kernel_rfl) (by kernel_rfl) (by kernel_rfl) (fun _ _ _ h => h) (Or.inl ⟨by rfl, ?_⟩) (by assumption) ?_
          rotate_left
          · intro w hSw; (try dsimp only at hSw); go_simp; (try (with_reducible rfl))
          try simp only [List.getElem_toArray, List.getElem_cons_succ, List.getElem_cons_zero, Act.put, List.setIfInBounds_toArray, List.set_cons_zero, List.set_cons_succ]
          refine wpAnyH_take (i := 4) (v := ?_) rfl (by kernel_rfl) (by kernel_rfl) (by kernel_rfl) (fun _ _ _ h => h) (Or.inl ⟨by rfl, ?_⟩) (by assumption) ?_
          rotate_left
          · intro w hSw; (try dsimp only at hSw); go_simp; (try (with_reducible rfl))
          try simp only [List.getElem_toArray, List.getElem_cons_succ, List.getElem_cons_zero, Act.put, List.setIfInBounds_toArray, List.set_cons_zero, List.set_cons_succ]
          refine wpAnyH_take (i := 5) (v := ?_) rfl (by kernel_rfl) (by kernel_rfl) (by kernel_rfl) (fun _ _ _ h => h) (Or.inl ⟨by rfl, ?_⟩) (by assumption) ?_
          rotate_left
          · intro w hSw; (try dsimp only at hSw); go_simp; (try (with_reducible rfl))
          try simp only [List.getElem_toArray, List.getElem_cons_succ, List.getElem_cons_zero, Act.put, List.setIfInBounds_toArray, List.set_cons_zero, List.set_cons_succ]
          refine wpAnyH_take (i := 7) (v := ?_) rfl (by kernel_rfl) (by kernel_rfl) (by kernel_rfl) (fun _ _ _ h => h) (Or.inl ⟨by rfl, ?_⟩) (by assumption) ?_
          rotate_left
          · intro w hSw; (try dsimp only at hSw); go_simp; (try (with_reducible rfl))
          try simp only [List.getElem_toArray, List.getElem_cons_succ, List.getElem_cons_zero, Act.put, List.setIfInBounds_toArray, List.set_cons_zero, List.set_cons_succ]
          refine wpAnyH_take (i := 8) (v := ?_) rfl (by kernel_rfl) (by kernel_rfl) (by kernel_rfl) (fun _ _ _ h => h) (Or.inl ⟨by rfl, ?_⟩) (by assumption) ?_
          rotate_left
          · intro w hSw; (try dsimp only at hSw); go_simp; (try (with_reducible rfl))
          try simp only [List.getElem_toArray, List.getElem_cons_succ, List.getElem_cons_zero, Act.put, List.setIfInBounds_toArray, List.set_cons_zero, List.set_cons_succ]
          refine wpAnyH_take (i := 9) (v := ?_) rfl (by kernel_rfl) (by kernel_rfl) (by kernel_rfl) (fun _ _ _ h => h) (Or.inl ⟨by rfl, ?_⟩) (by assumption) ?_
          rotate_left
          · intro w hSw; (try dsimp only at hSw); go_simp; (try (with_reducible rfl))
          try simp only [List.getElem_toArray, List.getElem_cons_succ, List.getElem_cons_zero, Act.put, List.setIfInBounds_toArray, List.set_cons_zero, List.set_cons_succ]
          refine wpAnyH_take (i := 10) (v := ?_) rfl (by kernel_rfl) (by kernel_rfl) (by kernel_rfl) (fun _ _ _ h => h) (Or.inl ⟨by rfl, ?_⟩) (by assumption) ?_
          rotate_left
          · intro w hSw; (try dsimp only at hSw); go_simp; (try (with_reducible rfl))
          try simp only [List.getElem_toArray, List.getElem_cons_succ, List.getElem_cons_zero, Act.put, List.setIfInBounds_toArray, List.set_cons_zero, List.set_cons_succ]
          refine wpAnyH_take (i := 11) (v := ?_) rfl (by kernel_rfl) (by kernel_rfl) (by kernel_rfl) (fun _ _ _ h => h) (Or.inl ⟨by rfl, ?_⟩) (by assumption) ?_
          rotate_left
          · intro w hSw; (try dsimp only at hSw); go_simp; (try (with_reducible rfl))
          try simp only [List.getElem_toArray, List.getElem_cons_succ, List.getElem_cons_zero, Act.put, List.setIfInBounds_toArray, List.set_cons_zero, List.set_cons_succ]
          refine wpAnyH_take (i := 12) (v := ?_) rfl (by kernel_rfl) (by kernel_rfl) (by kernel_rfl) (fun _ _ _ h => h) (Or.inl ⟨by rfl, ?_⟩) (by assumption) ?_
          rotate_left
          · intro w hSw; (try dsimp only at hSw); go_simp; (try (with_reducible rfl))
          try simp only [List.getElem_toArray, List.getElem_cons_succ, List.getElem_cons_zero, Act.put, List.setIfInBounds_toArray, List.set_cons_zero, List.set_cons_succ]
          refine wpAnyH_take (i := 16) (v := ?_) rfl (by kernel_rfl) (by kernel_rfl) (by kernel_rfl) (fun _ _ _ h => h) (Or.inl ⟨by rfl, ?_⟩) (by assumption) ?_
          rotate_left
          · intro w hSw; (try dsimp only at hSw); go_simp; (try (with_reducible rfl))
          try simp only [List.getElem_toArray, List.getElem_cons_succ, List.getElem_cons_zero, Act.put, List.setIfInBounds_toArray, List.set_cons_zero, List.set_cons_succ]
          refine wpAnyH_ready (rs := [6]) (by kernel_rfl) (by simp) ?_
          refine AllReadyH.cons rfl (fun K hK => ?_) AllReadyH.nil
          go_simp
          go_at_call 20; refine (CS1.out _).mono ?_; rintro e wy ⟨rfl, hb⟩
          have HBy := Lib.hid (HBd.out.trans (hb.mono HBd.out.size))
          clear hb
          go_wp2_with fail
          refine hK.out _ _ ?_ (fun hHeld => ?_)
          · clear hK K; exact HSQ.out _ HBy.out
          clear hK K
          try simp only [List.getElem_toArray, List.getElem_cons_succ, List.getElem_cons_zero, Act.put, List.setIfInBounds_toArray, List.set_cons_zero, List.set_cons_succ]
          refine wpAnyH_ready (rs := [13]) (by kernel_rfl) (by simp) ?_
          refine AllReadyH.cons rfl (fun K hK => ?_) AllReadyH.nil
          go_simp
          go_at_call 20; refine (CS2.out _).mono ?_; rintro e wz ⟨rfl, hb⟩
          have HBz := Lib.hid (HBy.out.trans (hb.mono HBy.out.size))
          clear hb
          go_wp2_with fail
          refine hK.out _ _ ?_ (fun hHeld => ?_)
          · clear hK K; exact HSQ.out _ HBz.out
          clear hK K
          try simp only [List.getElem_toArray, List.getElem_cons_succ, List.getElem_cons_zero, Act.put, List.setIfInBounds_toArray, List.set_cons_zero, List.set_cons_succ]
          refine wpAnyH_take (i := 14) (v := ?_) rfl (by kernel_rfl) (by kernel_rfl) (by kernel_rfl) (fun _ _ _ h => h) (Or.inl ⟨by rfl, ?_⟩) (by assumption) ?_
          rotate_left
          · intro w hSw; (try dsimp only at hSw); go_simp; (try (with_reducible rfl))
          try simp only [List.getElem_toArray, List.getElem_cons_succ, List.getElem_cons_zero, Act.put, List.setIfInBounds_toArray, List.set_cons_zero, List.set_cons_succ]
          refine wpAnyH_ready (rs := [15]) (by kernel_rfl) (by simp) ?_
          refine AllReadyH.cons rfl (fun K hK => ?_) AllReadyH.nil
          go_simp
          go_at_call 19; refine (CSz.out _).mono ?_; rintro e w' ⟨rfl, rfl⟩
          go_wp2_with fail
          refine hK.out _ _ ?_ (fun hHeld => ?_)
          · clear hK K; exact HSQ.out _ HBz.out
          clear hK K
          try simp only [List.getElem_toArray, List.getElem_cons_succ, List.getElem_cons_zero, Act.put, List.setIfInBounds_toArray, List.set_cons_zero, List.set_cons_succ]
          refine wpAnyH_take (i := 17) (v := ?_) rfl (by kernel_rfl) (by kernel_rfl) (by kernel_rfl) (fun _ _ _ h => h) (Or.inl ⟨by rfl, ?_⟩) (by assumption) ?_
          rotate_left
          · intro w hSw; (try dsimp only at hSw); go_simp; (try (with_reducible rfl))
          try simp only [List.getElem_toArray, List.getElem_cons_succ, List.getElem_cons_zero, Act.put, List.setIfInBounds_toArray, List.set_cons_zero, List.set_cons_succ]
          refine wpAnyH_done (by kernel_rfl) ?_ _
          obtain ⟨ws, hws⟩ : ∃ W, W = wz := ⟨_, rfl⟩
          subst hws
          have HBs := Lib.hid (HBk.out.trans (HBz.out.mono HBk.out.size))
          clear hHeld HBy HBz HBd HSQ
          clear c0 c1 c2 c3 c4 c5 c6 d0 d1
          go_wp2
          go_roundw
          case rel => exact ⟨b + 1, by omega, by go_num, HBs.out⟩
          case measure => simp [intOf]; omega
        · obtain rfl : a = b := by omega
          go_wp2
          go_roundw
          case rel => exact ⟨a + 1, by omega, by go_num, HBk.out⟩
          case measure => simp [intOf]; omega
    · obtain rfl : n = a := by omega
      go_wp2_with fail
      refine (CCP.out _ (HK.out _ HBA.out).2.2.2).mono ?_
      rintro e w8 ⟨⟨g8, cap8, rfl, hrr⟩, hb⟩
      have HRR := Lib.hid hrr
      have HB8 := Lib.hid (HBA.out.trans (hb.mono HBA.out.size))
      clear hrr hb HBA HBa HCP c0 c1 c2 c3 c4 c5 c6 d0 d1
      go_upto_region 23 with (fail)
      obtain ⟨W22, hW22⟩ : ∃ W, w8.alloc (.cells #[.slice (some ⟨g8, 0, none⟩) n cap8, .int .i64 rl, .int .i64 rh, .int .i64 xl, .int .i64 xh, .int .i64 yl, .int .i64 yh] 39) = W := ⟨_, rfl⟩
      have KW : Hid (Bk W22 w8.heap.size 39 #[.slice (some ⟨g8, 0, none⟩) n cap8, .int .i64 rl, .int .i64 rh, .int .i64 xl, .int .i64 xh, .int .i64 yl, .int .i64 yh]) := Lib.hid (by rw [← hW22]; exact Bk.new _ _ _)
      have hb22 : Below w8.heap.size w8 W22 := by rw [← hW22]; exact (Below.refl _ _).alloc (Nat.le_refl _) _
      have HB22 := Lib.hid (HB8.out.trans (hb22.mono HB8.out.size))
      rw [hW22]
      obtain ⟨W23, hW23⟩ : ∃ W, (W22.setCell ⟨w8.heap.size, 1, none⟩ (.int .i64 ql)).setCell ⟨w8.heap.size, 2, none⟩ (.int .i64 qh) = W := ⟨_, rfl⟩
      have KV : Hid (Bk W23 w8.heap.size 39 #[.slice (some ⟨g8, 0, none⟩) n cap8, .int .i64 ql, .int .i64 qh, .int .i64 xl, .int .i64 xh, .int .i64 yl, .int .i64 yh]) := Lib.hid (by rw [← hW23]; exact (KW.out.set_ 1 _).set_ 2 _)
      have hb23 : Below w8.heap.size w8 W23 := by rw [← hW23]; exact (hb22.setCell (Nat.le_refl _) _).setCell (Nat.le_refl _) _
      have HB23 := Lib.hid (HB8.out.trans (hb23.mono HB8.out.size))
      have HR23 : Hid (RdR W23 g8 n ps) := Lib.hid (HRR.out.below hb23)
      obtain ⟨g12, hg12⟩ : ∃ g, w8.heap.size = g := ⟨_, rfl⟩
      rw [hg12] at KW KV hW23 ⊢
      have f1 : W22.frozen? ⟨g12, 1, none⟩ = false := KW.out.frozen 1
      have f2 : W22.frozen? ⟨g12, 2, none⟩ = false := KW.out.frozen 2
      have y1 : W22.cell? ⟨g12, 1, none⟩ = some (.int .i64 rl) := by rw [KW.out.cell]; rfl
      have y2 : W22.cell? ⟨g12, 2, none⟩ = some (.int .i64 rh) := by rw [KW.out.cell]; rfl
      clear hW22 hb22 hb23 hg12 HRR HB8
      obtain ⟨⟨c0, c1, c2, c3, c4, c5, c6⟩, d0, d1⟩ := (HK.out _ (HB22.out)).1
      go_upto_region 24 with (fail)
      try rw [hW23]
      clear c0 c1 c2 c3 c4 c5 c6 d0 d1 f1 f2 y1 y2 KW hW23 HB22
      obtain ⟨⟨c0, c1, c2, c3, c4, c5, c6⟩, d0, d1⟩ := (HK.out _ (HB23.out)).1
      have z0 : W23.cell? ⟨g12, 0, none⟩ = some (.slice (some ⟨g8, 0, none⟩) n cap8) := by rw [KV.out.cell]; rfl
      have z1 : W23.cell? ⟨g12, 1, none⟩ = some (.int .i64 ql) := by rw [KV.out.cell]; rfl
      have z2 : W23.cell? ⟨g12, 2, none⟩ = some (.int .i64 qh) := by rw [KV.out.cell]; rfl
      have z3 : W23.cell? ⟨g12, 3, none⟩ = some (.int .i64 xl) := by rw [KV.out.cell]; rfl
      have z4 : W23.cell? ⟨g12, 4, none⟩ = some (.int .i64 xh) := by rw [KV.out.cell]; rfl
      have z5 : W23.cell? ⟨g12, 5, none⟩ = some (.int .i64 yl) := by rw [KV.out.cell]; rfl
      have z6 : W23.cell? ⟨g12, 6, none⟩ = some (.int .i64 yh) := by rw [KV.out.cell]; rfl
      go_wp2_with fail
      refine (CKW.out _ _ _ HR23.out).mono ?_
      rintro e w24 ⟨rfl, hb⟩
      have HB24 := Lib.hid (HB23.out.trans (hb.mono HB23.out.size))
      clear hb HB23 c0 c1 c2 c3 c4 c5 c6 d0 d1
      go_wp2
      go_ret
      exact ⟨rfl, (HK.out _ HB24.out).2.1⟩

theorem enclosed_walk (A : Option Addr) (n c : Nat) (rl rh xl xh yl yh : Int) (ps : List (Int × Int)) (cx cy : Int) (w : World) (hl : LaidSides w) (hr : RdP w A n ps) (hA : A = none → n = 0 ∧ c = 0) :
    Calls Tryd.prog 5 #[.agg #[.slice A n c, .int .i64 rl, .int .i64 rh, .int .i64 xl, .int .i64 xh, .int .i64 yl, .int .i64 yh], .agg #[.int .i64 cx, .int .i64 cy]] w fun e w' => e = .returned (.bool true) ∧ Below w.heap.size w w' := by
  by_cases hn : n ≤ 20
  · have CCP : Hid (∀ W, RdP W A n ps → Calls Tryd.prog 13 #[.agg #[.slice A n c, .int .i64 rl, .int .i64 rh, .int .i64 xl, .int .i64 xh, .int .i64 yl, .int .i64 yh]] W fun e w' => (∃ g cap, e = .returned (.agg #[.slice (some ⟨g, 0, none⟩) n cap, .int .i64 rl, .int .i64 rh, .int .i64 xl, .int .i64 xh, .int .i64 yl, .int .i64 yh]) ∧ RdR w' g n ps) ∧ Below W.heap.size W w') := Lib.hid (fun W h => copyCircle_any A n c rl rh xl xh yl yh ps W hA h (by omega))
    have CER := Lib.hid (fun W (h : RdP W A n ps) => refCircle_any A n c rl rh xl xh yl yh ps W h (by omega))
    have CCK := Lib.hid (fun g cap W (h : RdR W g n ps) => checkCenter_any (some ⟨g, 0, none⟩) n cap rl rh xl xh yl yh ps cx cy W (RdP.ofR h) (by omega))
    by_cases hE : circE ps rl rh xl xh yl yh = 0
    · rw [if_pos hE, if_pos hE] at CCK
      rw [hE] at CER
      by_cases hC : ctrE ps rl rh xl xh yl yh (cx, cy) = 0
      · have hin : inB xl xh yl yh (cx, cy) = true := by
          by_cases e : inB xl xh yl yh (cx, cy) = true
          · exact e
          · unfold ctrE at hC; rw [if_neg e] at hC; omega
        have hm : misI rl rh ps (cx, cy) = -1 := by
          by_cases e : misI rl rh ps (cx, cy) = -1
          · exact e
          · unfold ctrE at hC; rw [if_pos hin, if_neg e] at hC; omega
        have hI : ctrI ps rl rh xl xh yl yh (cx, cy) = 0 := by unfold ctrI; rw [if_pos hin, if_pos hm]
        rw [hC, hI] at CCK
        have hin2 := hin
        unfold inB at hin2
        rw [Bool.and_eq_true, fromB_one, fromB_one] at hin2
        dsimp only at hin2
        have hmem := fit_mem hin2.1 hin2.2 hm
        have h0 : (cenL ps rl rh xl xh yl yh).length ≠ 0 := fun e => by rw [List.eq_nil_of_length_eq_zero e] at hmem; cases hmem
        have CCT := Lib.hid (fun g cap W (h : RdR W g n ps) => centers_ok (some ⟨g, 0, none⟩) n cap rl rh xl xh yl yh ps W (RdP.ofR h) (by omega) hE)
        rw [cenV_some _ h0, if_neg h0] at CCT
        obtain ⟨q1, q2, q3, q4, q5⟩ := circ_ok hE
        obtain ⟨ql, hql⟩ : ∃ z, (if 0 < rl - 1 then rl - 1 else 0) = z := ⟨_, rfl⟩
        obtain ⟨qh, hqh⟩ : ∃ z, (if rh + 1 < 1000 then rh + 1 else 1000) = z := ⟨_, rfl⟩
        have hqlb : 0 ≤ ql ∧ ql ≤ rl := by rw [← hql]; split <;> omega
        have hqhb : rh ≤ qh ∧ qh ≤ 1000 := by rw [← hqh]; split <;> omega
        have hE2 := circ_wide hE hqlb.1 (by omega : ql ≤ qh) hqhb.2
        have hm2 := mis_wide hm hqlb.1 hqlb.2 (by omega) hqhb.1
        have CKW := Lib.hid (fun g cap W (h : RdR W g n ps) => checkCenter_any (some ⟨g, 0, none⟩) n cap ql qh xl xh yl yh ps cx cy W (RdP.ofR h) (by omega))
        rw [if_pos hE2, if_pos hE2] at CKW
        rw [show ctrE ps ql qh xl xh yl yh (cx, cy) = 0 by unfold ctrE; rw [if_pos hin, if_pos hm2], show ctrI ps ql qh xl xh yl yh (cx, cy) = 0 by unfold ctrI; rw [if_pos hin, if_pos hm2]] at CKW
        have hvx := mnA_le Prod.fst hmem
        have hvy := mnA_le Prod.snd hmem
        rcases hdA_first (allL_sorted _ _ _ _ _) hmem with h | h
        · exact enclosed_apart A n c rl rh xl xh yl yh ps cx cy w hl hr hn _ _ _ _ _ _ ql qh hE hin2.1 hin2.2 hm hvx hvy h hql hqh CER CCP CCK CCT CKW
        · exact enclosed_same A n c rl rh xl xh yl yh ps cx cy w hl hr hn _ _ _ _ _ _ ql qh hE hin2.1 hin2.2 hm hvx hvy h.1.symm h.2 hql hqh CER CCP CCK CCT CKW
      · exact enclosed_off A n c rl rh xl xh yl yh ps cx cy w hl hr hn _ _ hC CER CCP CCK
    · exact enclosed_err A n c rl rh xl xh yl yh ps cx cy w hl hr hn _ hE CER
  · exact enclosed_wide A n c rl rh xl xh yl yh ps cx cy w hl hr (by omega)

end Go.Proofs.YtpkjkegcdddimaaDoor
