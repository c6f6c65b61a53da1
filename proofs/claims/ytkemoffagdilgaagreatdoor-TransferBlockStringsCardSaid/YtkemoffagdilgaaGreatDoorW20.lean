import Derived.Test.YtkemoffagdilgaaGreatDoorW18
namespace Go.Proofs.YtkemoffagdilgaaGreatDoor
open Go.RowKit

set_option maxRecDepth 100000 in
theorem reduced_any (a b : Int) (w : World) (ha0 : 0 ≤ a) (ha1 : a ≤ 1000000000000) (hb0 : 0 < b) (hb1 : b ≤ 1000000) :
    Calls Tryz.prog 30 #[.int .i64 a, .int .i64 b] w fun e w' => e = .returned (.agg #[.int .i64 (a / (Int.gcd a b : Int)), .int .i64 (b / (Int.gcd a b : Int))]) ∧ Below w.heap.size w w' := by
  obtain ⟨g, hg⟩ : ∃ g : Int, (Int.gcd a b : Int) = g := ⟨_, rfl⟩
  have hg1 : 1 ≤ g := by rw [← hg]; have := Int.gcd_pos_of_ne_zero_right a (show b ≠ 0 by omega); omega
  have hg2 : g ≤ 1000000 := by
    rw [← hg]
    have : (Int.gcd a b : Int) ≤ b := Int.le_of_dvd hb0 (Int.gcd_dvd_right ..)
    omega
  have C : Hid (∀ W, Calls Tryz.prog 54 #[.int .i64 a, .int .i64 b] W fun e w' => e = .returned (.int .i64 g) ∧ ∃ n, w' = W.drewN n) := fun W => by rw [← hg]; exact commonDivisor_any a b (by omega) (by omega) hb0 (by omega) W
  rw [hg]
  clear hg
  have hq1 := Int.ediv_nonneg ha0 (show 0 ≤ g by omega)
  have hq2 := Int.ediv_le_self g ha0
  have hq3 := Int.ediv_nonneg (Int.le_of_lt hb0) (show 0 ≤ g by omega)
  have hq4 := Int.ediv_le_self g (Int.le_of_lt hb0)
  have hgne : (g == 0) = false := beq_eq_false_iff_ne.2 (by omega)
  go_enter Tryz.func30, Tryz.ntmps30
  go_wp2_with (go_at_call 54; refine (C.out _).mono ?_; rintro e w' ⟨rfl, k, rfl⟩)
  go_region
  go_wp2
  refine bodyPost_ret (v := .agg #[.int .i64 (a / g), .int .i64 (b / g)]) (by simp [results, Tryz.results30, go_sem]) rfl ⟨rfl, ?_⟩
  exact (((blw_drewN ((Below.refl _ _).alloc (Nat.le_refl _) _) _).setCell (by simp) _).setCell (by simp) _)

/-- The samples of a turn of a valid carrier: the fraction and the error. -/
def turnN (n d rate : Int) : Int := rate * 60 * d / (Int.gcd (rate * 60 * d) n : Int)
def turnD (n d rate : Int) : Int := n / (Int.gcd (rate * 60 * d) n : Int)

set_option maxRecDepth 100000 in
set_option maxHeartbeats 2000000 in
theorem samples_head (nm : ByteArray) (k sd n d rate r r0 : Int) (w : World) (t : Bool) (ht : (k == 2) = t) (hr0 : firstE [r, whenE t 15, rangeE rate 1 200000] = r0) (hne : r0 ≠ 0)
    (h1 : ∀ W, Calls Tryz.prog 27 #[.agg #[.string nm, .int .i64 k, .int .i64 sd, .int .i64 n, .int .i64 d]] W fun e w' => e = .returned (.int .i64 r) ∧ Below W.heap.size W w') :
    Calls Tryz.prog 10 #[.agg #[.string nm, .int .i64 k, .int .i64 sd, .int .i64 n, .int .i64 d], .int .i64 rate] w fun e w' => e = .returned (.tuple #[.agg #[.int .i64 0, .int .i64 0], .int .i64 r0]) ∧ Below w.heap.size w w' := by
  have C1 := Lib.hid h1
  clear h1
  have hb0 : (r0 != 0) = true := by simpa using hne
  have HR := Lib.hid hr0
  clear hne hr0
  go_enter Tryz.func10, Tryz.ntmps10
  go_wp2_with fail
  go_region_held3 (fun w' => w'.cell? ⟨w.heap.size, 0, none⟩ = some (.string nm) ∧ w'.cell? ⟨w.heap.size, 1, none⟩ = some (.int .i64 k) ∧ w'.cell? ⟨w.heap.size, 2, none⟩ = some (.int .i64 sd) ∧ w'.cell? ⟨w.heap.size, 3, none⟩ = some (.int .i64 n) ∧ w'.cell? ⟨w.heap.size, 4, none⟩ = some (.int .i64 d) ∧ w.heap.size + 1 < w'.heap.size)
    ((go_split_ands; refine ⟨?_, ?_, ?_, ?_, ?_, ?_⟩ <;> first | assumption | (rw [hb.cell (by first | assumption | (simp; done) | (simp; omega))]; first | assumption | (simp [go_sem]; done)) | exact Nat.lt_of_lt_of_le (by first | assumption | simp) hb.size | (go_keep; done) | (simp; omega)))
    (first
      | (go_at_call 27; refine (C1.out _).mono ?_; rintro e w' ⟨rfl, hb⟩)
      | (go_at_call 28; refine (when_any _ _ _).mono ?_; rintro e w' ⟨rfl, rfl⟩)
      | (go_at_call 29; refine (checkRange_any _ _ _ _).mono ?_; rintro e w' ⟨rfl, rfl⟩)
      | (go_at_call 26; refine (first3 _ _ _ _).mono ?_; rintro e w' ⟨rfl, rfl⟩))
  rw [HR.out]
  have z1 := hb.size
  simp at z1
  have BR : Bk w' (w.heap.size + 1) 35 #[.int .i64 0, .int .i64 0] := by
    have b0 : Bk ((w.alloc (.cells #[.string nm, .int .i64 k, .int .i64 sd, .int .i64 n, .int .i64 d] 39)).alloc (.cells #[.int .i64 0, .int .i64 0] 35)) (w.heap.size + 1) 35 #[.int .i64 0, .int .i64 0] := by
      have := Bk.new (w.alloc (.cells #[.string nm, .int .i64 k, .int .i64 sd, .int .i64 n, .int .i64 d] 39)) 35 #[.int .i64 0, .int .i64 0]
      rw [World.size_alloc] at this
      exact this
    exact (b0.drew).below hb (by simp)
  have l1 : Hid (Below w.heap.size w w') := ((((Below.refl _ _).alloc (Nat.le_refl _) _).alloc (by simp) _).drew).trans (hb.mono (by simp; omega))
  have r1 := BR.cell 0
  have r2 := BR.cell 1
  simp at r1 r2
  have f1 := BR.frozen 0
  have f2 := BR.frozen 1
  have z2 : w.heap.size + 1 < w'.heap.size := by omega
  clear BR hb z1
  go_wp2
  refine bodyPost_ret (v := .tuple #[.agg #[.int .i64 0, .int .i64 0], .int .i64 r0]) (by simp [results, Tryz.results10, go_sem, r1, r2, z2]) rfl ⟨rfl, ?_⟩
  refine Below.alloc (Below.setCell (Below.setCell l1.out ?_ _) ?_ _) ?_ _
  · exact Nat.le_succ _
  · exact Nat.le_succ _
  · simp [World.setCell]; omega

set_option maxRecDepth 100000 in
set_option maxHeartbeats 2000000 in
theorem samples_ok (nm : ByteArray) (k sd n d rate : Int) (w : World) (ht : (k == 2) = false) (hn0 : 1 ≤ n) (hn1 : n ≤ 10000) (hd0 : 1 ≤ d) (hd1 : d ≤ 10000) (hr0 : 1 ≤ rate) (hr1 : rate ≤ 200000)
    (h1 : ∀ W, Calls Tryz.prog 27 #[.agg #[.string nm, .int .i64 k, .int .i64 sd, .int .i64 n, .int .i64 d]] W fun e w' => e = .returned (.int .i64 0) ∧ Below W.heap.size W w') :
    Calls Tryz.prog 10 #[.agg #[.string nm, .int .i64 k, .int .i64 sd, .int .i64 n, .int .i64 d], .int .i64 rate] w fun e w' =>
      e = .returned (if 1000000000 < turnN n d rate then .tuple #[.agg #[.int .i64 0, .int .i64 0], .int .i64 8] else .tuple #[.agg #[.int .i64 (turnN n d rate), .int .i64 (turnD n d rate)], .int .i64 0]) ∧ Below w.heap.size w w' := by
  have C1 := Lib.hid h1
  clear h1
  have hm1 := mul_bd2 rate 60 200000 60 (by omega) (by omega) hr1 (by omega)
  have hm2 := mul_bd2 (rate * 60) d 12000000 10000 hm1.1 (by omega) (by omega) hd1
  have hg1 : 1 ≤ (Int.gcd (rate * 60 * d) n : Int) := by have := Int.gcd_pos_of_ne_zero_right (rate * 60 * d) (show n ≠ 0 by omega); omega
  have hD1 : 0 ≤ turnD n d rate ∧ turnD n d rate ≤ 10000 := by
    unfold turnD
    have a := Int.ediv_nonneg (show 0 ≤ n by omega) (show 0 ≤ (Int.gcd (rate * 60 * d) n : Int) by omega)
    have b := Int.ediv_le_self (Int.gcd (rate * 60 * d) n : Int) (show 0 ≤ n by omega)
    omega
  have C2 : Hid (∀ W, Calls Tryz.prog 30 #[.int .i64 (rate * 60 * d), .int .i64 n] W fun e w' => e = .returned (.agg #[.int .i64 (turnN n d rate), .int .i64 (turnD n d rate)]) ∧ Below W.heap.size W w') := fun W => reduced_any (rate * 60 * d) n W hm2.1 (by omega) (by omega) (by omega)
  obtain ⟨N, hN⟩ : ∃ N, turnN n d rate = N := ⟨_, rfl⟩
  obtain ⟨D, hD⟩ : ∃ D, turnD n d rate = D := ⟨_, rfl⟩
  rw [hN, hD] at C2
  rw [hD] at hD1
  rw [hN, hD]
  clear hN hD hg1
  have hR : Hid (firstE [0, whenE false 15, rangeE rate 1 200000] = 0) := by
    have e : rangeE rate 1 200000 = 0 := (rangeE_zero _ _ _).2 ⟨hr0, hr1⟩
    show firstE _ = 0
    rw [e]; rfl
  go_enter Tryz.func10, Tryz.ntmps10
  go_wp2_with fail
  go_region_held3 (fun w' => w'.cell? ⟨w.heap.size, 0, none⟩ = some (.string nm) ∧ w'.cell? ⟨w.heap.size, 1, none⟩ = some (.int .i64 k) ∧ w'.cell? ⟨w.heap.size, 2, none⟩ = some (.int .i64 sd) ∧ w'.cell? ⟨w.heap.size, 3, none⟩ = some (.int .i64 n) ∧ w'.cell? ⟨w.heap.size, 4, none⟩ = some (.int .i64 d) ∧ w.heap.size + 1 < w'.heap.size)
    ((go_split_ands; refine ⟨?_, ?_, ?_, ?_, ?_, ?_⟩ <;> first | assumption | (rw [hb.cell (by first | assumption | (simp; done) | (simp; omega))]; first | assumption | (simp [go_sem]; done)) | exact Nat.lt_of_lt_of_le (by first | assumption | simp) hb.size | (go_keep; done) | (simp; omega)))
    (first
      | (go_at_call 27; refine (C1.out _).mono ?_; rintro e w' ⟨rfl, hb⟩)
      | (go_at_call 28; refine (when_any _ _ _).mono ?_; rintro e w' ⟨rfl, rfl⟩)
      | (go_at_call 29; refine (checkRange_any _ _ _ _).mono ?_; rintro e w' ⟨rfl, rfl⟩)
      | (go_at_call 26; refine (first3 _ _ _ _).mono ?_; rintro e w' ⟨rfl, rfl⟩))
  rw [hR.out]
  have z1 := hb.size
  simp at z1
  have BR : Bk w' (w.heap.size + 1) 35 #[.int .i64 0, .int .i64 0] := by
    have b0 : Bk ((w.alloc (.cells #[.string nm, .int .i64 k, .int .i64 sd, .int .i64 n, .int .i64 d] 39)).alloc (.cells #[.int .i64 0, .int .i64 0] 35)) (w.heap.size + 1) 35 #[.int .i64 0, .int .i64 0] := by
      have := Bk.new (w.alloc (.cells #[.string nm, .int .i64 k, .int .i64 sd, .int .i64 n, .int .i64 d] 39)) 35 #[.int .i64 0, .int .i64 0]
      rw [World.size_alloc] at this
      exact this
    exact (b0.drew).below hb (by simp)
  have BC : Bk w' w.heap.size 39 #[.string nm, .int .i64 k, .int .i64 sd, .int .i64 n, .int .i64 d] := (((Bk.new w _ _).alloc _).drew).below hb (by simp; omega)
  have l1 : Hid (Below w.heap.size w w') := ((((Below.refl _ _).alloc (Nat.le_refl _) _).alloc (by simp) _).drew).trans (hb.mono (by simp; omega))
  have z2 : w.heap.size + 1 < w'.heap.size := by omega
  obtain ⟨w4, hw4⟩ : ∃ w4, w'.alloc (.cells #[.int .i64 0, .int .i64 (whenE false 15), .int .i64 (rangeE rate 1 200000)] 27) = w4 := ⟨_, rfl⟩
  have BR4 : Bk w4 (w.heap.size + 1) 35 #[.int .i64 0, .int .i64 0] := by rw [← hw4]; exact BR.alloc _
  have BC4 : Bk w4 w.heap.size 39 #[.string nm, .int .i64 k, .int .i64 sd, .int .i64 n, .int .i64 d] := by rw [← hw4]; exact BC.alloc _
  have l4 : Hid (Below w.heap.size w w4) := by show Below _ _ _; rw [← hw4]; exact l1.out.alloc (by omega) _
  have z4 : w.heap.size + 1 < w4.heap.size := BR4.lt
  try rw [hw4]
  clear hw4 l1 z2 z1 BR BC hb
  have c3 := BC4.cell 3
  have c4 := BC4.cell 4
  simp at c3 c4
  have HBR4 := Lib.hid BR4
  clear BC4 BR4
  go_wp2_with fail
  refine (C2.out _).mono ?_
  rintro e w5 ⟨rfl, hb5⟩
  have BR5 := HBR4.out.below hb5 z4
  have l5 : Hid (Below w.heap.size w w5) := l4.out.trans (hb5.mono (by omega))
  have z5 : w.heap.size + 1 < w5.heap.size := BR5.lt
  have r1 := BR5.cell 0
  have r2 := BR5.cell 1
  simp at r1 r2
  have f1 := BR5.frozen 0
  have f2 := BR5.frozen 1
  clear BR5 hb5
  by_cases hbig : 1000000000 < N
  · have hd9 : ¬ (1000000000 < D) := by omega
    go_wp2
    refine bodyPost_ret (v := .tuple #[.agg #[.int .i64 0, .int .i64 0], .int .i64 8]) (by simp [results, Tryz.results10, go_sem, r1, r2, z5]) rfl ⟨rfl, ?_⟩
    refine Below.alloc (Below.setCell (Below.setCell l5.out ?_ _) ?_ _) ?_ _
    · exact Nat.le_succ _
    · exact Nat.le_succ _
    · simp [World.setCell]; omega
  · have hd9 : ¬ (1000000000 < D) := by omega
    go_wp2
    refine bodyPost_ret (v := .tuple #[.agg #[.int .i64 N, .int .i64 D], .int .i64 0]) (by simp [results, Tryz.results10, go_sem, r1, r2, z5]) rfl ⟨rfl, ?_⟩
    refine Below.alloc (Below.setCell (Below.setCell l5.out ?_ _) ?_ _) ?_ _
    · exact Nat.le_succ _
    · exact Nat.le_succ _
    · simp [World.setCell]; omega

end Go.Proofs.YtkemoffagdilgaaGreatDoor
