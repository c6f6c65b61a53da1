import Derived.Test.YtepjnkmmielamaaDoorW44
namespace Go.Proofs.YtepjnkmmielamaaDoor
open Go.RowKit

theorem refU_any (x0 x1 x2 x3 x4 x5 x6 x7 : Int) (xs : List Int) (p j : Nat) (HI : Is8 #[.int .i64 x0, .int .i64 x1, .int .i64 x2, .int .i64 x3, .int .i64 x4, .int .i64 x5, .int .i64 x6, .int .i64 x7] xs) (HB : Bnd xs 32767) (hp : p < 3) (hlt : j < 8) :
    ∃ x E u : Int, xs.getD j 0 = x ∧ expd xs j p = E ∧ (foldeds xs p).getD j 0 = u ∧ (-32767 ≤ x ∧ x ≤ 32767) ∧ (-131068 ≤ E ∧ E ≤ 131068) ∧ (0 ≤ u ∧ u ≤ 1000000) ∧ u = fold1 (x - E) := by
  have hxb := HB j
  have hEb := expd_bd xs j p 32767 HB (by omega)
  exact ⟨_, _, _, rfl, rfl, rfl, hxb, by omega, foldeds_small xs p HB j, foldeds_at xs p j hlt⟩

set_option maxRecDepth 100000 in
set_option maxHeartbeats 4000000 in
theorem refPackedOf_any (x0 x1 x2 x3 x4 x5 x6 x7 : Int) (w : World) (hb : Bnd [x0, x1, x2, x3, x4, x5, x6, x7] 32767) :
    Calls Tryd.prog 49 #[.agg #[.int .i64 x0, .int .i64 x1, .int .i64 x2, .int .i64 x3, .int .i64 x4, .int .i64 x5, .int .i64 x6, .int .i64 x7]] w fun e w' => ∃ v, e = .returned v ∧ w'.ownsRow w.heap.size 3 1 v (packT [x0, x1, x2, x3, x4, x5, x6, x7]).length ((packT [x0, x1, x2, x3, x4, x5, x6, x7]).map (Value.int .i64)) ∧ Below w.heap.size w w' := by
  have HI := Lib.hid (is8_lit x0 x1 x2 x3 x4 x5 x6 x7)
  have HB := Lib.hid hb
  have CB : Hid (∀ W (p k : Nat), p < 3 → k < 18 → Calls Tryd.prog 51 #[.agg #[.int .i64 x0, .int .i64 x1, .int .i64 x2, .int .i64 x3, .int .i64 x4, .int .i64 x5, .int .i64 x6, .int .i64 x7], .int .i64 p, .int .i64 k] W fun e w' => e = .returned (.int .i64 (bitsF (foldeds [x0, x1, x2, x3, x4, x5, x6, x7] p) k)) ∧ Below W.heap.size W w') := fun W p k hp hk => refBitsFor_any x0 x1 x2 x3 x4 x5 x6 x7 p k W hp hk hb
  obtain ⟨xs, hxs⟩ : ∃ xs : List Int, [x0, x1, x2, x3, x4, x5, x6, x7] = xs := ⟨_, rfl⟩
  rw [hxs] at HI HB CB ⊢
  clear hxs hb
  have hx0 : Hid (Bk (w.alloc (.cells #[.int .i64 x0, .int .i64 x1, .int .i64 x2, .int .i64 x3, .int .i64 x4, .int .i64 x5, .int .i64 x6, .int .i64 x7] 35)) w.heap.size 35 #[.int .i64 x0, .int .i64 x1, .int .i64 x2, .int .i64 x3, .int .i64 x4, .int .i64 x5, .int .i64 x6, .int .i64 x7]) := Bk.new _ _ _
  go_enter Tryd.func49, Tryd.ntmps49
  go_wp2
  go_loopw [3, 4, 5] (fun a b i wr => ∃ p : Nat, p ≤ 3 ∧ i = .int .i64 p ∧ a = .int .i64 ((outerS xs (startS xs) p).1 : Nat) ∧ b = .int .i64 ((outerS xs (startS xs) p).2.1 : Nat) ∧ Hid (Bk wr w.heap.size 35 #[.int .i64 x0, .int .i64 x1, .int .i64 x2, .int .i64 x3, .int .i64 x4, .int .i64 x5, .int .i64 x6, .int .i64 x7]) ∧ Hid (Below w.heap.size w wr)) (fun _ _ i _ => 3 - (intOf i).toNat)
  case atStart => exact ⟨0, by omega, rfl, rfl, rfl, hx0, (Below.refl _ _).alloc (Nat.le_refl _) _⟩
  case round =>
    clear hx0
    obtain ⟨p, hp, rfl, rfl, rfl, hx, hbw⟩ := hrel
    by_cases hlt : p < 3
    · have hgood := (GoodS.start xs).outer p (by omega)
      obtain ⟨s, hs⟩ : ∃ s, outerS xs (startS xs) p = s := ⟨_, rfl⟩
      have hnext : Hid (outerS xs (startS xs) (p + 1) = innerS xs s p 18) := by show outerS xs (startS xs) (p + 1) = _; rw [← hs]; rfl
      rw [hs] at hgood ⊢
      clear hs
      have HG := Lib.hid hgood; clear hgood
      have hpd : decide ((p : Int) < 3) = true := by simp; omega
      go_wp2
      clear hpd
      go_loopw [3, 4, 6] (fun a b i wr => ∃ k : Nat, k ≤ 18 ∧ i = .int .i64 k ∧ a = .int .i64 ((innerS xs s p k).1 : Nat) ∧ b = .int .i64 ((innerS xs s p k).2.1 : Nat) ∧ Hid (Bk wr w.heap.size 35 #[.int .i64 x0, .int .i64 x1, .int .i64 x2, .int .i64 x3, .int .i64 x4, .int .i64 x5, .int .i64 x6, .int .i64 x7]) ∧ Hid (Below w.heap.size w wr)) (fun _ _ i _ => 18 - (intOf i).toNat)
      case atStart => exact ⟨0, by omega, rfl, rfl, rfl, hx, hbw⟩
      case round =>
        clear hx hbw
        obtain ⟨k, hk, rfl, rfl, rfl, hx, hbw⟩ := hrel
        by_cases hlk : k < 18
        · have hgood := HG.out.inner p hlt k (by omega)
          obtain ⟨t, ht⟩ : ∃ t, innerS xs s p k = t := ⟨_, rfl⟩
          have hnx : Hid (innerS xs s p (k + 1) = stepS xs t p k) := by show innerS xs s p (k + 1) = _; rw [← ht]; rfl
          rw [ht] at hgood ⊢
          clear ht
          obtain ⟨a, b, n0⟩ := t
          obtain ⟨ha3, hb18, hn0⟩ := hgood
          simp only at ha3 hb18 hn0 ⊢
          obtain ⟨n, hn⟩ : ∃ n, bitsF (foldeds xs p) k = n := ⟨_, rfl⟩
          have C1 : Hid (∀ W, Calls Tryd.prog 51 #[.agg #[.int .i64 x0, .int .i64 x1, .int .i64 x2, .int .i64 x3, .int .i64 x4, .int .i64 x5, .int .i64 x6, .int .i64 x7], .int .i64 p, .int .i64 k] W fun e w' => e = .returned (.int .i64 n) ∧ Below W.heap.size W w') := fun W => by rw [← hn]; exact CB.out W p k hlt hlk
          have C2 : Hid (∀ W, Calls Tryd.prog 51 #[.agg #[.int .i64 x0, .int .i64 x1, .int .i64 x2, .int .i64 x3, .int .i64 x4, .int .i64 x5, .int .i64 x6, .int .i64 x7], .int .i64 a, .int .i64 b] W fun e w' => e = .returned (.int .i64 n0) ∧ Below W.heap.size W w') := fun W => by rw [hn0]; exact CB.out W a b ha3 hb18
          have HN := Lib.hid hn
          clear hn hn0
          have hxl := hx.out.lt
          have c0 : wr.cell? ⟨w.heap.size, 0, none⟩ = some (.int .i64 x0) := by rw [hx.out.cell]; rfl
          have c1 : wr.cell? ⟨w.heap.size, 1, none⟩ = some (.int .i64 x1) := by rw [hx.out.cell]; rfl
          have c2 : wr.cell? ⟨w.heap.size, 2, none⟩ = some (.int .i64 x2) := by rw [hx.out.cell]; rfl
          have c3 : wr.cell? ⟨w.heap.size, 3, none⟩ = some (.int .i64 x3) := by rw [hx.out.cell]; rfl
          have c4 : wr.cell? ⟨w.heap.size, 4, none⟩ = some (.int .i64 x4) := by rw [hx.out.cell]; rfl
          have c5 : wr.cell? ⟨w.heap.size, 5, none⟩ = some (.int .i64 x5) := by rw [hx.out.cell]; rfl
          have c6 : wr.cell? ⟨w.heap.size, 6, none⟩ = some (.int .i64 x6) := by rw [hx.out.cell]; rfl
          have c7 : wr.cell? ⟨w.heap.size, 7, none⟩ = some (.int .i64 x7) := by rw [hx.out.cell]; rfl
          by_cases hless : n < n0
          all_goals
            go_wp2_with fail
            go_region_held3 (fun w' => w'.cell? ⟨w.heap.size, 0, none⟩ = some (.int .i64 x0) ∧ w'.cell? ⟨w.heap.size, 1, none⟩ = some (.int .i64 x1) ∧ w'.cell? ⟨w.heap.size, 2, none⟩ = some (.int .i64 x2) ∧ w'.cell? ⟨w.heap.size, 3, none⟩ = some (.int .i64 x3) ∧ w'.cell? ⟨w.heap.size, 4, none⟩ = some (.int .i64 x4) ∧ w'.cell? ⟨w.heap.size, 5, none⟩ = some (.int .i64 x5) ∧ w'.cell? ⟨w.heap.size, 6, none⟩ = some (.int .i64 x6) ∧ w'.cell? ⟨w.heap.size, 7, none⟩ = some (.int .i64 x7) ∧ w.heap.size < w'.heap.size)
              ((go_split_ands; refine ⟨?_, ?_, ?_, ?_, ?_, ?_, ?_, ?_, ?_⟩ <;> first | assumption | (rw [hbb.cell (by first | assumption | simp)]; assumption) | (rw [hba.cell (by first | assumption | simpa using hxl)]; assumption) | exact Nat.lt_of_lt_of_le (by first | assumption | simpa using hxl) hbb.size | exact Nat.lt_of_lt_of_le (by first | assumption | simpa using hxl) hba.size | (go_keep; done)))
              (first
                | (go_at_call 51; (with_reducible refine (C1.out _).mono ?_); rintro e w' ⟨rfl, hba⟩)
                | (go_at_call 51; (with_reducible refine (C2.out _).mono ?_); rintro e w' ⟨rfl, hbb⟩))
            have X4 : Hid (Bk w' w.heap.size 35 #[.int .i64 x0, .int .i64 x1, .int .i64 x2, .int .i64 x3, .int .i64 x4, .int .i64 x5, .int .i64 x6, .int .i64 x7]) := ((hx.out.drew).below hba (by simpa using hxl)).below hbb (Nat.lt_of_lt_of_le hxl (by simpa using hba.size))
            have l4 : Hid (Below w.heap.size w w') := ((hbw.out.drew).trans (hba.mono (by simp; omega))).trans (hbb.mono (by have := hba.size; simp at this; omega))
            clear hba hbb
            go_wp2
            go_roundw
            case rel =>
              have e : stepS xs (a, b, n0) p k = if n < n0 then (p, k, n) else (a, b, n0) := by unfold stepS; rw [HN.out]
              first
                | exact ⟨k + 1, by omega, by go_num, by rw [hnx.out, e, if_pos hless], by rw [hnx.out, e, if_pos hless], X4, l4⟩
                | exact ⟨k + 1, by omega, by go_num, by rw [hnx.out, e, if_neg (by omega)], by rw [hnx.out, e, if_neg (by omega)], X4, l4⟩
            case measure => simp [intOf]; omega
        · obtain rfl : k = 18 := by omega
          go_wp2
          go_roundw
          case rel => exact ⟨p + 1, by omega, by go_num, by rw [hnext.out], by rw [hnext.out], hx, hbw⟩
          case measure => simp [intOf]; omega
    · obtain rfl : p = 3 := by omega
      have hgood := shortS_good xs
      have hsh : outerS xs (startS xs) 3 = shortS xs := rfl
      rw [hsh]
      clear hsh
      have hP0 : packT xs = packW (foldeds xs (shortS xs).1) (shortS xs).1 (shortS xs).2.1 8 := rfl
      obtain ⟨s, hs⟩ : ∃ s, shortS xs = s := ⟨_, rfl⟩
      rw [hs] at hgood hP0 ⊢
      clear hs
      obtain ⟨p, k, n0⟩ := s
      obtain ⟨hp3, hk18, _⟩ := hgood
      simp only at hp3 hk18 hP0 ⊢
      have hP := Lib.hid hP0
      clear hP0
      clear hlt hp
      have hxl := hx.out.lt
      go_wp2_with fail
      refine (bitsOf_two p _ (by omega)).mono ?_
      rintro e w4 ⟨rfl, hk4, hb4⟩
      have X4 : Hid (Bk w4 w.heap.size 35 #[.int .i64 x0, .int .i64 x1, .int .i64 x2, .int .i64 x3, .int .i64 x4, .int .i64 x5, .int .i64 x6, .int .i64 x7]) := hx.out.below hb4 hxl
      have l4 : Hid (Below w.heap.size w w4) := hbw.out.trans (hb4.mono (by omega))
      have K4 := Lib.hid hk4
      have z4 : wr.heap.size < w4.heap.size := K4.out.lt
      clear hk4 hb4
      go_wp2_with fail
      refine (bitsOf_five k _ (by omega)).mono ?_
      rintro e w5 ⟨rfl, hk5, hb5⟩
      have X5 : Hid (Bk w5 w.heap.size 35 #[.int .i64 x0, .int .i64 x1, .int .i64 x2, .int .i64 x3, .int .i64 x4, .int .i64 x5, .int .i64 x6, .int .i64 x7]) := X4.out.below hb5 (by omega)
      have l5 : Hid (Below w.heap.size w w5) := l4.out.trans (hb5.mono (by omega))
      have K4' : Hid (Bk w5 wr.heap.size 3 (iArr (bitsOf p 2))) := K4.out.below hb5 z4
      have K5 := Lib.hid hk5
      have z5 : w4.heap.size < w5.heap.size := K5.out.lt
      have o5 : Hid (w5.ownsRow (w.heap.size + 1) 3 1 (.slice (some ⟨wr.heap.size, 0, none⟩) 2 2) 2 ((bitsOf p 2).map (Value.int .i64))) := own_of_bk 2 K4'.out (by rw [bitsOf_length]) (by omega) (by omega)
      have len5 : Hid (((bitsOf k 5).map (Value.int .i64)).length = 5 * 1) := by show List.length _ = _; rw [List.length_map, bitsOf_length]
      have src5 := Lib.hid (src_of_bk K5.out)
      have one5 := Lib.hid (one_ints (bitsOf k 5))
      clear hk5 hb5 K4 K4' K5
      obtain ⟨i0, hi, hz0, hz1, hz2⟩ := info_parts intInfo
      obtain ⟨news, hnews⟩ : ∃ news, (bitsOf k 5).map (Value.int .i64) = news := ⟨_, rfl⟩
      rw [hnews] at src5 one5 len5
      have HNEWS := Lib.hid hnews
      clear hnews
      go_wp2_with (at_builtin; refine wpList_append_own _ rfl (.tmp 31) (.tmp 33) 48 rfl (w.heap.size + 1) 3 i0 (.int .i64 0) 1 8 intsUnder hi hz0 hz1 hz2 rfl (by decide) _ _ _ rfl o5.out ⟨w4.heap.size, 0, none⟩ 5 5 news rfl len5.out src5.out one5.out (by unfold maxLen; omega) (by omega) (by omega) ?_; intro v6 w6 ho6 hg6 _; have o6 := Lib.hid ho6; have l6' : Hid (Below (w.heap.size + 1) w5 w6) := (Below.refl _ _).grown hg6 (by omega) (fun g hg => (o5.out.lt g hg).1); clear ho6 hg6)
      have l6 : Hid (Below w.heap.size w w6) := l5.out.trans (l6'.out.mono (by omega))
      have X6 : Hid (Bk w6 w.heap.size 35 #[.int .i64 x0, .int .i64 x1, .int .i64 x2, .int .i64 x3, .int .i64 x4, .int .i64 x5, .int .i64 x6, .int .i64 x7]) := X5.out.below l6'.out (by omega)
      have HL8 : Hid ((foldeds xs p).length = 8) := foldeds_length xs p
      obtain ⟨L, hL⟩ : ∃ L, foldeds xs p = L := ⟨_, rfl⟩
      have HSm : Hid (Small L) := by show Small L; rw [← hL]; exact foldeds_small xs p HB.out
      have HU : Hid (∀ j : Nat, j < 8 → ∃ x E u : Int, xs.getD j 0 = x ∧ expd xs j p = E ∧ L.getD j 0 = u ∧ (-32767 ≤ x ∧ x ≤ 32767) ∧ (-131068 ≤ E ∧ E ≤ 131068) ∧ (0 ≤ u ∧ u ≤ 1000000) ∧ u = fold1 (x - E)) := by
        intro j hj; rw [← hL]; exact refU_any x0 x1 x2 x3 x4 x5 x6 x7 xs p j HI.out HB.out hp3 hj
      rw [hL] at hP HL8
      clear hL
      have o6' : Hid (w6.ownsRow (w.heap.size + 1) 3 1 v6 (packW L p k 0).length ((packW L p k 0).map (Value.int .i64))) := by
        have := o6.out
        rw [← HNEWS.out, ← List.map_append] at this
        show w6.ownsRow _ _ _ _ _ _
        have e : packW L p k 0 = bitsOf p 2 ++ bitsOf k 5 := by simp [packW, headB, codesTo]
        have e2 : (packW L p k 0).length = 2 + 5 := by rw [e]; simp [bitsOf_length]
        rw [e2, e]
        exact this
      clear o6 l6' o5 len5 src5 one5 HNEWS l5 X5 l4 X4 hx hbw CB
      obtain ⟨P, hP1⟩ : ∃ P, pw k = P := ⟨_, rfl⟩
      have hpw := pw_bd k (by omega)
      have HPn : Hid (P = ((2 ^ k : Nat) : Int)) := by show P = _; rw [← hP1, pw_nat]
      have C3 : Hid (∀ W, Calls Tryd.prog 108 #[.int .i64 k] W fun e w' => e = .returned (.int .i64 P) ∧ W = w') := fun W => by rw [← hP1]; exact power_any k W (by omega)
      rw [hP1] at hpw
      clear hP1
      have z6 : w.heap.size < w6.heap.size := X6.out.lt
      go_wp2_with fail
      go_loopw [7, 8] (fun v i wr => ∃ j : Nat, j ≤ 8 ∧ i = .int .i64 j ∧ Hid (wr.ownsRow (w.heap.size + 1) 3 1 v (packW L p k j).length ((packW L p k j).map (Value.int .i64))) ∧ Hid (Bk wr w.heap.size 35 #[.int .i64 x0, .int .i64 x1, .int .i64 x2, .int .i64 x3, .int .i64 x4, .int .i64 x5, .int .i64 x6, .int .i64 x7]) ∧ Hid (Below w.heap.size w wr) ∧ w.heap.size < wr.heap.size) (fun _ i _ => 8 - (intOf i).toNat)
      case atStart => exact ⟨0, by omega, rfl, o6', X6, l6, z6⟩
      case round =>
        clear o6' X6 l6 z6
        obtain ⟨j, hj, rfl, ho, hx, hbw, hsz⟩ := hrel
        by_cases hlt : j < 8
        · obtain ⟨x, E, u, hxk, hE, hu, hxb, hEb, hub, huf⟩ := HU.out j hlt
          have hcell : wr.cell? ⟨w.heap.size, j, none⟩ = some (.int .i64 x) := by rw [hx.out.cell, HI.out.at_ j hlt, hxk]
          have C1 : Hid (∀ W, Calls Tryd.prog 107 #[.agg #[.int .i64 x0, .int .i64 x1, .int .i64 x2, .int .i64 x3, .int .i64 x4, .int .i64 x5, .int .i64 x6, .int .i64 x7], .int .i64 j, .int .i64 p] W fun e w' => e = .returned (.int .i64 E) ∧ Below W.heap.size W w') := fun W => by rw [← hE]; exact refExpected_any _ xs j p W HI.out HB.out hlt hp3
          have C2 : Hid (∀ W, Calls Tryd.prog 106 #[.int .i64 (x - E)] W fun e w' => e = .returned (.int .i64 u) ∧ W = w') := fun W => by rw [huf]; exact folded_any _ W (by omega) (by omega)
          have hwrap : IntKind.i64.wrap (x - E) = x - E := IntWalk.i64_in _ (by omega)
          clear hxk hE huf
          have hlen := packW_length L p k j HSm.out (by rw [HL8.out]; exact hj)
          have hbd := bitsTo_bd L k j HSm.out (by omega) (by rw [HL8.out]; exact hj)
          have hn1 : (packW L p k j).length ≤ 8500000 := by omega
          clear hlen hbd
          obtain ⟨un, hun⟩ : ∃ un : Nat, u = un := Int.eq_ofNat_of_zero_le hub.1
          subst hun
          obtain ⟨n, hn⟩ : ∃ n, (packW L p k j).length = n := ⟨_, rfl⟩
          obtain ⟨ys, hys⟩ : ∃ ys, packW L p k j = ys := ⟨_, rfl⟩
          have hnext : Hid (packW L p k (j + 1) = ys ++ codeU un k) := by
            show packW L p k (j + 1) = _
            rw [← hys, packW, packW, codesTo, hu, List.append_assoc]
            rfl
          rw [hn] at hn1 ho
          rw [hys] at ho hn
          clear hys hu
          have HN := Lib.hid hn
          clear hn
          have c0 : wr.cell? ⟨w.heap.size, 0, none⟩ = some (.int .i64 x0) := by rw [hx.out.cell]; rfl
          have c1 : wr.cell? ⟨w.heap.size, 1, none⟩ = some (.int .i64 x1) := by rw [hx.out.cell]; rfl
          have c2 : wr.cell? ⟨w.heap.size, 2, none⟩ = some (.int .i64 x2) := by rw [hx.out.cell]; rfl
          have c3 : wr.cell? ⟨w.heap.size, 3, none⟩ = some (.int .i64 x3) := by rw [hx.out.cell]; rfl
          have c4 : wr.cell? ⟨w.heap.size, 4, none⟩ = some (.int .i64 x4) := by rw [hx.out.cell]; rfl
          have c5 : wr.cell? ⟨w.heap.size, 5, none⟩ = some (.int .i64 x5) := by rw [hx.out.cell]; rfl
          have c6 : wr.cell? ⟨w.heap.size, 6, none⟩ = some (.int .i64 x6) := by rw [hx.out.cell]; rfl
          have c7 : wr.cell? ⟨w.heap.size, 7, none⟩ = some (.int .i64 x7) := by rw [hx.out.cell]; rfl
          go_wp2_with fail
          go_region_held3 (fun w' => w'.cell? ⟨w.heap.size, j, none⟩ = some (.int .i64 x) ∧ w'.cell? ⟨w.heap.size, 0, none⟩ = some (.int .i64 x0) ∧ w'.cell? ⟨w.heap.size, 1, none⟩ = some (.int .i64 x1) ∧ w'.cell? ⟨w.heap.size, 2, none⟩ = some (.int .i64 x2) ∧ w'.cell? ⟨w.heap.size, 3, none⟩ = some (.int .i64 x3) ∧ w'.cell? ⟨w.heap.size, 4, none⟩ = some (.int .i64 x4) ∧ w'.cell? ⟨w.heap.size, 5, none⟩ = some (.int .i64 x5) ∧ w'.cell? ⟨w.heap.size, 6, none⟩ = some (.int .i64 x6) ∧ w'.cell? ⟨w.heap.size, 7, none⟩ = some (.int .i64 x7))
            (first | go_keep | (go_split_ands; refine ⟨?_, ?_, ?_, ?_, ?_, ?_, ?_, ?_, ?_⟩ <;> (rw [hb.cell (by simpa using hsz)]; assumption)))
            (first
              | (go_at_call 107; refine (C1.out _).mono ?_; rintro e w' ⟨rfl, hb⟩)
              | (go_at_call 106; refine (C2.out _).mono ?_; rintro e w' ⟨rfl, rfl⟩))
          have X7 : Hid (Bk w' w.heap.size 35 #[.int .i64 x0, .int .i64 x1, .int .i64 x2, .int .i64 x3, .int .i64 x4, .int .i64 x5, .int .i64 x6, .int .i64 x7]) := (hx.out.drew).below hb (by simpa using hsz)
          have l7 : Hid (Below w.heap.size w w') := (hbw.out.drew).trans (hb.mono (by simp; omega))
          have z7 : w.heap.size < w'.heap.size := X7.out.lt
          have o7 : Hid (w'.ownsRow (w.heap.size + 1) 3 1 u7 n (ys.map (Value.int .i64))) := own_later (w := wr.drew) ho.out hb
          clear hb hwrap c0 c1 c2 c3 c4 c5 c6 c7 hcell hx hbw ho hsz C1 C2
          obtain ⟨q, hq⟩ : ∃ q : Nat, un / 2 ^ k = q := ⟨_, rfl⟩
          have hq1 : q ≤ 1000000 := by rw [← hq]; exact Nat.le_trans (Nat.div_le_self _ _) (by omega)
          have hqd : (un : Int) / P = (q : Int) := by rw [HPn.out, ← hq]; simp
          have hP0 : ¬ P = 0 := by omega
          have HQ := Lib.hid hq
          clear hq
          go_wp2_with (go_at_call 108; refine (C3.out _).mono ?_; rintro e w8 ⟨rfl, rfl⟩)
          clear hqd
          have o7' : Hid (w'.ownsRow (w.heap.size + 1) 3 1 u7 (n + 0) ((ys ++ List.replicate 0 1).map (Value.int .i64))) := by
            show w'.ownsRow _ _ _ _ _ _
            simpa using o7.out
          clear o7
          go_loopw [7, 10] (fun v i wr => ∃ t : Nat, t ≤ q ∧ i = .int .i64 ((q : Int) - t) ∧ Hid (wr.ownsRow (w.heap.size + 1) 3 1 v (n + t) ((ys ++ List.replicate t 1).map (Value.int .i64))) ∧ Hid (Bk wr w.heap.size 35 #[.int .i64 x0, .int .i64 x1, .int .i64 x2, .int .i64 x3, .int .i64 x4, .int .i64 x5, .int .i64 x6, .int .i64 x7]) ∧ Hid (Below w.heap.size w wr) ∧ w.heap.size < wr.heap.size) (fun _ i _ => (intOf i).toNat)
          case atStart => exact ⟨0, by omega, by simp, o7', X7, l7, z7⟩
          case round =>
            clear o7' X7 l7 z7
            obtain ⟨t, ht, rfl, ho, hx, hbw, hsz⟩ := hrel
            by_cases htq : t < q
            · obtain ⟨d, hd⟩ : ∃ d : Nat, (q : Int) - t = d := ⟨q - t, by omega⟩
              rw [hd]
              have HD := Lib.hid hd
              have hd1 : 0 < d := by omega
              have hd2 : d ≤ 1000000 := by omega
              clear hd
              go_wp2_with (at_builtin; refine wpList_append_own _ rfl (.tmp 56) (.tmp 57) 48 rfl (w.heap.size + 1) 3 i0 (.int .i64 0) 1 8 intsUnder hi hz0 hz1 hz2 rfl (by decide) _ _ _ rfl (ho.out.alloc _) ⟨World.heap _ |>.size, 0, none⟩ 1 1 [.int .i64 1] rfl rfl (src_one _ _ _) (one_one _) (by unfold maxLen; omega) (by omega) (by simp; omega) ?_)
              intro v9 w9 ho9 hg9 _
              have b9 : Below (w.heap.size + 1) wr w9 := ((Below.refl _ _).alloc (by omega) _).grown hg9 (by simp; omega) (fun g hg => (ho.out.lt g hg).1)
              have o9 : Hid (w9.ownsRow (w.heap.size + 1) 3 1 v9 (n + (t + 1)) ((ys ++ List.replicate (t + 1) 1).map (Value.int .i64))) := by
                show w9.ownsRow _ _ _ _ _ _
                simpa [List.map_append, List.append_assoc, List.replicate_succ', Nat.add_assoc] using ho9
              have X9 : Hid (Bk w9 w.heap.size 35 #[.int .i64 x0, .int .i64 x1, .int .i64 x2, .int .i64 x3, .int .i64 x4, .int .i64 x5, .int .i64 x6, .int .i64 x7]) := hx.out.below b9 (by omega)
              have l9 : Hid (Below w.heap.size w w9) := hbw.out.trans (b9.mono (by omega))
              have z9 : w.heap.size < w9.heap.size := X9.out.lt
              clear ho9 hg9 b9 ho hx hbw hsz
              go_wp2
              go_roundw
              case rel => exact ⟨t + 1, by omega, by have := HD.out; congr 1; omega, o9, X9, l9, z9⟩
              case measure => simp [intOf]; omega
            · obtain rfl : t = q := by omega
              have e0 : ((t : Int) - t) = 0 := by omega
              rw [e0]
              clear e0
              go_wp2_with (at_builtin; refine wpList_append_own _ rfl (.tmp 59) (.tmp 60) 48 rfl (w.heap.size + 1) 3 i0 (.int .i64 0) 1 8 intsUnder hi hz0 hz1 hz2 rfl (by decide) _ _ _ rfl (ho.out.alloc _) ⟨World.heap _ |>.size, 0, none⟩ 1 1 [.int .i64 0] rfl rfl (src_one _ _ _) (one_one _) (by unfold maxLen; omega) (by omega) (by simp; omega) ?_)
              intro v9 w9 ho9 hg9 _
              have b9 : Below (w.heap.size + 1) wr w9 := ((Below.refl _ _).alloc (by omega) _).grown hg9 (by simp; omega) (fun g hg => (ho.out.lt g hg).1)
              have o9 : Hid (w9.ownsRow (w.heap.size + 1) 3 1 v9 (n + t + 1) ((ys ++ (List.replicate t 1 ++ [0])).map (Value.int .i64))) := by
                show w9.ownsRow _ _ _ _ _ _
                simpa [List.map_append, List.append_assoc] using ho9
              have X9 : Hid (Bk w9 w.heap.size 35 #[.int .i64 x0, .int .i64 x1, .int .i64 x2, .int .i64 x3, .int .i64 x4, .int .i64 x5, .int .i64 x6, .int .i64 x7]) := hx.out.below b9 (by omega)
              have l9 : Hid (Below w.heap.size w w9) := hbw.out.trans (b9.mono (by omega))
              have z9 : w.heap.size < w9.heap.size := X9.out.lt
              clear ho9 hg9 b9 ho hx hbw hsz
              obtain ⟨r, hr⟩ : ∃ r : Nat, un % 2 ^ k = r := ⟨_, rfl⟩
              have hr1 : r ≤ 1000000 := by rw [← hr]; exact Nat.le_trans (Nat.mod_le _ _) (by omega)
              have hrd : (un : Int) % P = (r : Int) := by rw [HPn.out, ← hr]; simp
              have HR : Hid (bitsOf r k = bitsOf un k) := by show bitsOf r k = _; rw [← hr, bitsOf_mod]
              clear hr
              go_wp2_with (go_at_call 108; refine (C3.out _).mono ?_; rintro e w8 ⟨rfl, rfl⟩)
              clear hrd
              refine (bitsOf_any r k w9 (by omega) (by omega)).mono ?_
              rintro e w10 ⟨rfl, hk10, hb10⟩
              have K10 : Hid (Bk w10 w9.heap.size 3 (iArr (bitsOf un k))) := by show Bk _ _ _ _; rw [← HR.out]; exact hk10
              have o10 : Hid (w10.ownsRow (w.heap.size + 1) 3 1 v9 (n + t + 1) ((ys ++ (List.replicate t 1 ++ [0])).map (Value.int .i64))) := own_later o9.out hb10
              have l10 : Hid (Below w.heap.size w w10) := l9.out.trans (hb10.mono (by omega))
              have X10 : Hid (Bk w10 w.heap.size 35 #[.int .i64 x0, .int .i64 x1, .int .i64 x2, .int .i64 x3, .int .i64 x4, .int .i64 x5, .int .i64 x6, .int .i64 x7]) := X9.out.below hb10 z9
              have z10 : w9.heap.size < w10.heap.size := K10.out.lt
              clear hk10 hb10 o9 l9 X9
              have lenk : Hid (((bitsOf un k).map (Value.int .i64)).length = k * 1) := by show List.length _ = _; rw [List.length_map, bitsOf_length]; omega
              have srck := Lib.hid (src_of_bk K10.out)
              have onek := Lib.hid (one_ints (bitsOf un k))
              obtain ⟨news, hnews⟩ : ∃ news, (bitsOf un k).map (Value.int .i64) = news := ⟨_, rfl⟩
              rw [hnews] at lenk srck onek
              have HNEWS := Lib.hid hnews
              clear hnews K10
              go_wp2_with (at_builtin; refine wpList_append_own _ rfl (.tmp 61) (.tmp 67) 48 rfl (w.heap.size + 1) 3 i0 (.int .i64 0) 1 8 intsUnder hi hz0 hz1 hz2 rfl (by decide) _ _ _ rfl o10.out ⟨w9.heap.size, 0, none⟩ k k news rfl lenk.out srck.out onek.out (by unfold maxLen; omega) (by omega) (by omega) ?_)
              intro v11 w11 ho11 hg11 _
              have b11 : Below (w.heap.size + 1) w10 w11 := (Below.refl _ _).grown hg11 (by omega) (fun g hg => (o10.out.lt g hg).1)
              have X11 : Hid (Bk w11 w.heap.size 35 #[.int .i64 x0, .int .i64 x1, .int .i64 x2, .int .i64 x3, .int .i64 x4, .int .i64 x5, .int .i64 x6, .int .i64 x7]) := X10.out.below b11 (by omega)
              have l11 : Hid (Below w.heap.size w w11) := l10.out.trans (b11.mono (by omega))
              have z11 : w.heap.size < w11.heap.size := X11.out.lt
              have o11 : Hid (w11.ownsRow (w.heap.size + 1) 3 1 v11 (packW L p k (j + 1)).length ((packW L p k (j + 1)).map (Value.int .i64))) := by
                show w11.ownsRow _ _ _ _ _ _
                have e : ys ++ codeU un k = (ys ++ (List.replicate t 1 ++ [0])) ++ bitsOf un k := by simp [codeU, HQ.out]
                have e3 : (codeU un k).length = t + 1 + k := by rw [codeU_length, HQ.out]
                have e4 : ys.length = n := HN.out
                have e2 : n + t + 1 + k = (ys ++ codeU un k).length := by rw [List.length_append, e3, e4]; omega
                rw [hnext.out, ← e2, e, List.map_append, HNEWS.out]
                simpa [List.map_append, List.append_assoc] using ho11
              clear ho11 hg11 b11 o10 l10 X10 lenk srck onek
              go_wp2
              go_roundw
              case rel => exact ⟨j + 1, by omega, by go_num, o11, X11, l11, z11⟩
              case measure => simp [intOf]; omega
        · obtain rfl : j = 8 := by omega
          go_wp2
          go_ret
          refine ⟨_, rfl, ?_, hbw.out⟩
          rw [hP.out]
          exact own_base ho.out (by omega)

end Go.Proofs.YtepjnkmmielamaaDoor
