import Derived.Test.YtepjnkmmielamaaDoorW31
namespace Go.Proofs.YtepjnkmmielamaaDoor
open Go.RowKit

set_option maxRecDepth 100000 in
theorem samplesB_tape (nm : ByteArray) (k sd n d rate : Int) (w : World) (hk : (k == 2) = true) :
    Calls Tryd.prog 20 #[.agg #[.string nm, .int .i64 k, .int .i64 sd, .int .i64 n, .int .i64 d], .int .i64 rate] w fun e w' => e = .returned (.tuple #[.agg #[.int .i64 0, .int .i64 0], .int .i64 15]) ∧ Below w.heap.size w w' := by
  go_enter Tryd.func20, Tryd.ntmps20
  go_wp2
  refine bodyPost_ret (v := .tuple #[.agg #[.int .i64 0, .int .i64 0], .int .i64 15]) (by simp [results, Tryd.results20, go_sem]) rfl ⟨rfl, ?_⟩
  exact ((Below.refl _ _).alloc (Nat.le_refl _) _).alloc (by simp) _

set_option maxRecDepth 100000 in
theorem samplesB_rate (nm : ByteArray) (k sd n d rate : Int) (w : World) (hk : (k == 2) = false) (hr : inB rate 1 200000 = false) :
    Calls Tryd.prog 20 #[.agg #[.string nm, .int .i64 k, .int .i64 sd, .int .i64 n, .int .i64 d], .int .i64 rate] w fun e w' => e = .returned (.tuple #[.agg #[.int .i64 0, .int .i64 0], .int .i64 2]) ∧ Below w.heap.size w w' := by
  go_enter Tryd.func20, Tryd.ntmps20
  go_wp2_with (go_at_call 26; refine (within_any _ _ _ _).mono ?_; rintro e w' ⟨rfl, rfl⟩)
  refine bodyPost_ret (v := .tuple #[.agg #[.int .i64 0, .int .i64 0], .int .i64 2]) (by simp [results, Tryd.results20, go_sem]) rfl ⟨rfl, ?_⟩
  exact ((Below.refl _ _).alloc (Nat.le_refl _) _).alloc (by simp) _

set_option maxRecDepth 100000 in
set_option maxHeartbeats 2000000 in
theorem samplesB_ok (nm : ByteArray) (k sd n d rate : Int) (w : World) (ht : (k == 2) = false) (hn0 : 1 ≤ n) (hn1 : n ≤ 10000) (hd0 : 1 ≤ d) (hd1 : d ≤ 10000) (hr0 : 1 ≤ rate) (hr1 : rate ≤ 200000) :
    Calls Tryd.prog 20 #[.agg #[.string nm, .int .i64 k, .int .i64 sd, .int .i64 n, .int .i64 d], .int .i64 rate] w fun e w' =>
      e = .returned (if 1000000000 < turnN n d rate then .tuple #[.agg #[.int .i64 0, .int .i64 0], .int .i64 8] else .tuple #[.agg #[.int .i64 (turnN n d rate), .int .i64 (turnD n d rate)], .int .i64 0]) ∧ Below w.heap.size w w' := by
  have hm1 := mul_bd2 rate 60 200000 60 (by omega) (by omega) hr1 (by omega)
  have hm2 := mul_bd2 (rate * 60) d 12000000 10000 hm1.1 (by omega) (by omega) hd1
  have hg1 : 1 ≤ (Int.gcd (rate * 60 * d) n : Int) := by have := Int.gcd_pos_of_ne_zero_right (rate * 60 * d) (show n ≠ 0 by omega); omega
  have hD1 : 1 ≤ turnD n d rate ∧ turnD n d rate ≤ 10000 := by
    unfold turnD
    have a := Int.ediv_pos_of_pos_of_dvd (show 0 < n by omega) (show 0 ≤ (Int.gcd (rate * 60 * d) n : Int) by omega) (Int.gcd_dvd_right ..)
    have b := Int.ediv_le_self (Int.gcd (rate * 60 * d) n : Int) (show 0 ≤ n by omega)
    omega
  have hN0 : 0 ≤ turnN n d rate := Int.ediv_nonneg hm2.1 (by omega)
  have C2 : Hid (∀ W, Calls Tryd.prog 82 #[.int .i64 (rate * 60 * d), .int .i64 n] W fun e w' => e = .returned (.agg #[.int .i64 (turnN n d rate), .int .i64 (turnD n d rate)]) ∧ Below W.heap.size W w') := fun W => lowest_any (rate * 60 * d) n W hm2.1 (by omega) (by omega) (by omega)
  have hIN : inB rate 1 200000 = true := by simp [inB]; omega
  obtain ⟨N, hN⟩ : ∃ N, turnN n d rate = N := ⟨_, rfl⟩
  obtain ⟨D, hD⟩ : ∃ D, turnD n d rate = D := ⟨_, rfl⟩
  rw [hN, hD] at C2
  rw [hD] at hD1
  rw [hN] at hN0
  rw [hN, hD]
  clear hN hD hg1
  have hS : (inB N (-1000000000) 1000000000 && inB D 1 1000000000) = !decide (1000000000 < N) := by
    by_cases h : 1000000000 < N
    · have e : inB N (-1000000000) 1000000000 = false := by simp [inB]; omega
      rw [e]; simp [h]
    · have e : inB N (-1000000000) 1000000000 = true := by simp [inB]; omega
      have e2 : inB D 1 1000000000 = true := by simp [inB]; omega
      rw [e, e2]; simp [h]
  have CS : Hid (∀ W, Calls Tryd.prog 83 #[.agg #[.int .i64 N, .int .i64 D]] W fun e w' => e = .returned (.bool (!decide (1000000000 < N))) ∧ Below W.heap.size W w') := fun W => by rw [← hS]; exact isSmall_any N D W
  clear hS
  go_enter Tryd.func20, Tryd.ntmps20
  go_wp2_with (go_at_call 26; refine (within_any _ _ _ _).mono ?_; rintro e w' ⟨rfl, rfl⟩)
  refine (C2.out _).mono ?_
  rintro e w5 ⟨rfl, hb5⟩
  have b0 : Bk ((w.alloc (.cells #[.string nm, .int .i64 k, .int .i64 sd, .int .i64 n, .int .i64 d] 25)).alloc (.cells #[.int .i64 0, .int .i64 0] 23)) (w.heap.size + 1) 23 #[.int .i64 0, .int .i64 0] := by
    have := Bk.new (w.alloc (.cells #[.string nm, .int .i64 k, .int .i64 sd, .int .i64 n, .int .i64 d] 25)) 23 #[.int .i64 0, .int .i64 0]
    rw [World.size_alloc] at this
    exact this
  have BR5 : Bk w5 (w.heap.size + 1) 23 #[.int .i64 0, .int .i64 0] := b0.below hb5 (by simp)
  clear b0
  have z5 : w.heap.size + 1 < w5.heap.size := BR5.lt
  have l5 : Hid (Below w.heap.size w w5) := (((Below.refl _ _).alloc (Nat.le_refl _) _).alloc (by simp) _).trans (hb5.mono (by simp; omega))
  clear hb5
  have HBR5 := Lib.hid BR5
  clear BR5
  go_wp2_with fail
  refine (CS.out _).mono ?_
  rintro e w7 ⟨rfl, hb7⟩
  have BR7 : Bk w7 (w.heap.size + 1) 23 #[.int .i64 0, .int .i64 0] := (HBR5.out.alloc _).below hb7 (by simp; omega)
  have BT7 : Bk w7 w5.heap.size 23 #[.int .i64 N, .int .i64 D] := (Bk.new w5 _ _).below hb7 (by simp)
  have l7 : Hid (Below w.heap.size w w7) := (l5.out.alloc (by omega) _).trans (hb7.mono (by simp; omega))
  have z7 : w.heap.size + 1 < w7.heap.size := BR7.lt
  have r1 := BR7.cell 0
  have r2 := BR7.cell 1
  have t1 := BT7.cell 0
  have t2 := BT7.cell 1
  simp at r1 r2 t1 t2
  have f1 := BR7.frozen 0
  have f2 := BR7.frozen 1
  clear BR7 BT7 hb7
  by_cases hbig : 1000000000 < N
  · go_wp2
    refine bodyPost_ret (v := .tuple #[.agg #[.int .i64 0, .int .i64 0], .int .i64 8]) (by simp [results, Tryd.results20, go_sem, r1, r2, z7]) rfl ⟨by simp [hbig], ?_⟩
    refine Below.setCell (Below.setCell l7.out ?_ _) ?_ _
    · exact Nat.le_succ _
    · exact Nat.le_succ _
  · go_wp2
    refine bodyPost_ret (v := .tuple #[.agg #[.int .i64 N, .int .i64 D], .int .i64 0]) (by simp [results, Tryd.results20, go_sem, r1, r2, z7]) rfl ⟨by simp [hbig], ?_⟩
    refine Below.setCell (Below.setCell l7.out ?_ _) ?_ _
    · exact Nat.le_succ _
    · exact Nat.le_succ _

end Go.Proofs.YtepjnkmmielamaaDoor
