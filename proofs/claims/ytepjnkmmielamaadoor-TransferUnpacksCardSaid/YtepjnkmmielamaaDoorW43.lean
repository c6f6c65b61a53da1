import Derived.Test.YtepjnkmmielamaaDoorW41
namespace Go.Proofs.YtepjnkmmielamaaDoor
open Go.RowKit

set_option maxRecDepth 100000 in
set_option maxHeartbeats 1000000 in
theorem refBitsFor_any (x0 x1 x2 x3 x4 x5 x6 x7 : Int) (p k : Nat) (w : World) (hp : p < 3) (hk : k < 18) (hb : Bnd [x0, x1, x2, x3, x4, x5, x6, x7] 32767) :
    Calls Tryd.prog 51 #[.agg #[.int .i64 x0, .int .i64 x1, .int .i64 x2, .int .i64 x3, .int .i64 x4, .int .i64 x5, .int .i64 x6, .int .i64 x7], .int .i64 p, .int .i64 k] w fun e w' => e = .returned (.int .i64 (bitsF (foldeds [x0, x1, x2, x3, x4, x5, x6, x7] p) k)) ∧ Below w.heap.size w w' := by
  have HI := Lib.hid (is8_lit x0 x1 x2 x3 x4 x5 x6 x7)
  have HB := Lib.hid hb
  obtain ⟨xs, hxs⟩ : ∃ xs : List Int, [x0, x1, x2, x3, x4, x5, x6, x7] = xs := ⟨_, rfl⟩
  rw [hxs] at HI HB ⊢
  have HS : Hid (Small (foldeds xs p)) := foldeds_small xs p HB.out
  clear hxs hb
  have C1 : Hid (∀ (i : Nat) W, i < 8 → Calls Tryd.prog 107 #[.agg #[.int .i64 x0, .int .i64 x1, .int .i64 x2, .int .i64 x3, .int .i64 x4, .int .i64 x5, .int .i64 x6, .int .i64 x7], .int .i64 i, .int .i64 p] W fun e w' => e = .returned (.int .i64 (expd xs i p)) ∧ Below W.heap.size W w') := fun i W hi => refExpected_any _ xs i p W HI.out HB.out hi hp
  have C3 : Hid (∀ W, Calls Tryd.prog 108 #[.int .i64 k] W fun e w' => e = .returned (.int .i64 (pw k)) ∧ W = w') := fun W => power_any k W (by omega)
  have X0 : Hid (Bk (w.alloc (.cells #[.int .i64 x0, .int .i64 x1, .int .i64 x2, .int .i64 x3, .int .i64 x4, .int .i64 x5, .int .i64 x6, .int .i64 x7] 35)) w.heap.size 35 #[.int .i64 x0, .int .i64 x1, .int .i64 x2, .int .i64 x3, .int .i64 x4, .int .i64 x5, .int .i64 x6, .int .i64 x7]) := Bk.new _ _ _
  have hpw := pw_bd k (by omega)
  have HPW : Hid (pw k = 2 ^ k) := rfl
  obtain ⟨P, hP⟩ : ∃ P, pw k = P := ⟨_, rfl⟩
  rw [hP] at C3 hpw HPW
  clear hP
  go_enter Tryd.func51, Tryd.ntmps51
  go_wp2
  go_loopw [7, 8] (fun n i wr => ∃ j : Nat, j ≤ 8 ∧ i = .int .i64 j ∧ n = .int .i64 (bitsTo (foldeds xs p) k j) ∧ Hid (Bk wr w.heap.size 35 #[.int .i64 x0, .int .i64 x1, .int .i64 x2, .int .i64 x3, .int .i64 x4, .int .i64 x5, .int .i64 x6, .int .i64 x7]) ∧ Hid (Below w.heap.size w wr) ∧ w.heap.size < wr.heap.size) (fun _ i _ => 8 - (intOf i).toNat)
  case atStart => exact ⟨0, by omega, rfl, by rw [bitsTo_zero], X0, (Below.refl _ _).alloc (Nat.le_refl _) _, by simp⟩
  case round =>
    clear X0
    obtain ⟨j, hj, rfl, rfl, hx, hbw, hsz⟩ := hrel
    have hbt := bitsTo_bd (foldeds xs p) k j HS.out (by omega) (by rw [foldeds_length]; exact hj)
    by_cases hlt : j < 8
    · have hst := bitsTo_step (foldeds xs p) k j (by rw [foldeds_length]; exact hlt)
      have hf8 := foldeds_at xs p j hlt
      have hsm := HS.out j
      obtain ⟨x, hxk⟩ : ∃ x, xs.getD j 0 = x := ⟨_, rfl⟩
      have hcell : wr.cell? ⟨w.heap.size, j, none⟩ = some (.int .i64 x) := by rw [hx.out.cell, HI.out.at_ j hlt, hxk]
      have hxb := HB.out j
      obtain ⟨E, hE⟩ : ∃ E, expd xs j p = E := ⟨_, rfl⟩
      have hEb := expd_bd xs j p 32767 HB.out (by omega)
      have C1' : Hid (∀ W, Calls Tryd.prog 107 #[.agg #[.int .i64 x0, .int .i64 x1, .int .i64 x2, .int .i64 x3, .int .i64 x4, .int .i64 x5, .int .i64 x6, .int .i64 x7], .int .i64 j, .int .i64 p] W fun e w' => e = .returned (.int .i64 E) ∧ Below W.heap.size W w') := fun W => by rw [← hE]; exact C1.out j W hlt
      rw [hxk] at hxb hf8
      rw [hE] at hEb hf8
      clear hxk hE
      have hwrap : IntKind.i64.wrap (x - E) = x - E := IntWalk.i64_in _ (by omega)
      have C2 : Hid (∀ W, Calls Tryd.prog 106 #[.int .i64 (x - E)] W fun e w' => e = .returned (.int .i64 ((foldeds xs p).getD j 0)) ∧ W = w') := fun W => by rw [hf8]; exact folded_any _ W (by omega) (by omega)
      obtain ⟨u, hu⟩ : ∃ u, (foldeds xs p).getD j 0 = u := ⟨_, rfl⟩
      rw [hu] at C2 hsm hst
      rw [← HPW.out] at hst
      obtain ⟨N, hN⟩ : ∃ N, bitsTo (foldeds xs p) k j = N := ⟨_, rfl⟩
      rw [hN] at hst hbt ⊢
      have HST := Lib.hid hst
      clear hst hf8 hu hN
      have c0 : wr.cell? ⟨w.heap.size, 0, none⟩ = some (.int .i64 x0) := by rw [hx.out.cell]; rfl
      have c1 : wr.cell? ⟨w.heap.size, 1, none⟩ = some (.int .i64 x1) := by rw [hx.out.cell]; rfl
      have c2 : wr.cell? ⟨w.heap.size, 2, none⟩ = some (.int .i64 x2) := by rw [hx.out.cell]; rfl
      have c3 : wr.cell? ⟨w.heap.size, 3, none⟩ = some (.int .i64 x3) := by rw [hx.out.cell]; rfl
      have c4 : wr.cell? ⟨w.heap.size, 4, none⟩ = some (.int .i64 x4) := by rw [hx.out.cell]; rfl
      have c5 : wr.cell? ⟨w.heap.size, 5, none⟩ = some (.int .i64 x5) := by rw [hx.out.cell]; rfl
      have c6 : wr.cell? ⟨w.heap.size, 6, none⟩ = some (.int .i64 x6) := by rw [hx.out.cell]; rfl
      have c7 : wr.cell? ⟨w.heap.size, 7, none⟩ = some (.int .i64 x7) := by rw [hx.out.cell]; rfl
      have hq : 0 ≤ u / P ∧ u / P ≤ 1000000 := ⟨Int.ediv_nonneg hsm.1 (by omega), Int.le_trans (Int.ediv_le_self _ hsm.1) hsm.2⟩
      obtain ⟨q, hq'⟩ : ∃ q, u / P = q := ⟨_, rfl⟩
      rw [hq'] at hq HST
      have hP0 : ¬ P = 0 := by omega
      have hd : IntKind.i64.wrap (u.tdiv P) = q := by rw [← hq']; exact IntWalk.i64_quo _ _ ⟨hsm.1, by omega, hpw.1⟩
      clear hq'
      have hs1 : IntKind.i64.wrap (N + q) = N + q := IntWalk.i64_in _ (by omega)
      have hs2 : IntKind.i64.wrap (N + q + 1) = N + q + 1 := IntWalk.i64_in _ (by omega)
      have hs3 : IntKind.i64.wrap (N + q + 1 + k) = N + q + 1 + k := IntWalk.i64_in _ (by omega)
      go_wp2_with fail
      go_region_held3 (fun w' => w'.cell? ⟨w.heap.size, j, none⟩ = some (.int .i64 x) ∧ w'.cell? ⟨w.heap.size, 0, none⟩ = some (.int .i64 x0) ∧ w'.cell? ⟨w.heap.size, 1, none⟩ = some (.int .i64 x1) ∧ w'.cell? ⟨w.heap.size, 2, none⟩ = some (.int .i64 x2) ∧ w'.cell? ⟨w.heap.size, 3, none⟩ = some (.int .i64 x3) ∧ w'.cell? ⟨w.heap.size, 4, none⟩ = some (.int .i64 x4) ∧ w'.cell? ⟨w.heap.size, 5, none⟩ = some (.int .i64 x5) ∧ w'.cell? ⟨w.heap.size, 6, none⟩ = some (.int .i64 x6) ∧ w'.cell? ⟨w.heap.size, 7, none⟩ = some (.int .i64 x7))
        (first | go_keep | (go_split_ands; refine ⟨?_, ?_, ?_, ?_, ?_, ?_, ?_, ?_, ?_⟩ <;> (rw [hb.cell (by simpa using hsz)]; assumption)))
        (first
          | (go_at_call 107; refine (C1'.out _).mono ?_; rintro e w' ⟨rfl, hb⟩)
          | (go_at_call 106; refine (C2.out _).mono ?_; rintro e w' ⟨rfl, rfl⟩)
          | (go_at_call 108; refine (C3.out _).mono ?_; rintro e w' ⟨rfl, rfl⟩))
      clear hwrap hd hs1 hs2 hs3
      have hx' : Hid (Bk w' w.heap.size 35 #[.int .i64 x0, .int .i64 x1, .int .i64 x2, .int .i64 x3, .int .i64 x4, .int .i64 x5, .int .i64 x6, .int .i64 x7]) := (hx.out.drew).below hb (by simpa using hsz)
      have hb' : Hid (Below w.heap.size w w') := (hbw.out.drew).trans (hb.mono (by simp; omega))
      have hsz' : w.heap.size < w'.heap.size := hx'.out.lt
      go_wp2
      go_roundw
      case rel => exact ⟨j + 1, by omega, by go_num, by rw [HST.out]; congr 1; omega, hx', hb', hsz'⟩
      case measure => simp [intOf]; omega
    · obtain rfl : j = 8 := by omega
      go_wp2
      go_ret
      exact ⟨rfl, hbw.out⟩

end Go.Proofs.YtepjnkmmielamaaDoor
