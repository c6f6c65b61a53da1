import Derived.Test.YtnmfeonagigkeaaDoorU0
namespace Go.Proofs.YtnmfeonagigkeaaDoor
open Go.RowKit

set_option maxRecDepth 100000 in
set_option maxHeartbeats 8000000 in
theorem bridges_okn (A : Option Addr) (n c : Nat) (xs : List Int) (B : Option Addr) (k cB : Nat) (gs : List (Int × Int)) (w : World) (hl : LaidSides w) (hA : A = none → n = 0 ∧ c = 0) (hB : B = none → k = 0 ∧ cB = 0) (hr : RdI w A n xs) (hg : RdP w B k gs) (hn : n ≤ 203) (hk : k ≤ 20) (hBn : B = none) (yl : List Int) (hyl : yl.length = n) (hbe : brE xs gs = 0) (hbl : brL xs gs = yl) (hd : posE xs = 0) (hd2 : gapsE n gs = 0)
    (hCRB : ∀ W, RdI W A n xs → RdP W B k gs → Calls Tryd.prog 31 #[.slice A n c, .slice B k cB] W (OwnS W yl))
    (hgb : ∀ m, m < k → 0 ≤ (gs.getD m (0, 0)).1 ∧ (gs.getD m (0, 0)).1 ≤ (gs.getD m (0, 0)).2 ∧ (gs.getD m (0, 0)).2 ≤ (n : Int) - 1)
    (hout : ∀ j, j < n → (∀ m, m < k → ¬ inG gs m j) → yl.getD j 0 = xs.getD j 0)
    (hbt : ∀ j, j < n → ∀ m, m < k → inG gs m j → ∀ p q : Nat, (gs.getD m (0, 0)).1 - 1 = p → (gs.getD m (0, 0)).2 + 1 = q → q ≠ n → min (xs.getD p 0) (xs.getD q 0) ≤ yl.getD j 0 ∧ yl.getD j 0 ≤ max (xs.getD p 0) (xs.getD q 0)) :
    Calls Tryd.prog 5 #[.slice A n c, .slice B k cB] w fun e w' => e = .returned (.bool true) ∧ Below w.heap.size w w' := by
  have HL := Lib.hid hl
  have HA := Lib.hid hA
  have HB := Lib.hid hB
  have HR := Lib.hid hr
  have HG := Lib.hid hg
  have HXL : Hid (xs.length = n) := hr.1
  have HGL : Hid (gs.length = k) := hg.1
  clear hl hA hB hr hg
  have HN : Hid (n ≤ 1000000) := by show _ ≤ _; omega
  have HK : Hid (k ≤ 1000) := by show _ ≤ _; omega
  have CLONG : Hid (∀ (W : World) (c : Nat), Calls Tryd.prog 26 #[.slice A n c] W fun e w' => e = .returned (.bool true) ∧ W = w') := fun W c => by have h := long_any A n c W; rw [decide_eq_true hn] at h; exact h
  have hkI : ¬ (20 : Int) < (k : Int) := by omega
  obtain ⟨i0, hi, hz0, hz1, hz2⟩ := info_parts rngInfo
  have CE : Hid (∀ W, RdI W A n xs → Calls Tryd.prog 29 #[.slice A n c] W fun e w' => e = .returned (.int .i64 0) ∧ W = w') := fun W h => by rw [← hd]; exact refPosErr_any A n c xs W h (by omega)
  have CGE : Hid (∀ W, RdP W B k gs → Calls Tryd.prog 30 #[.int .i64 n, .slice B k cB] W fun e w' => e = .returned (.int .i64 0) ∧ Below W.heap.size W w') := fun W h => by rw [← hd2]; exact refGapsErr_any n B k cB gs W h HK.out (by omega)
  have CB : Hid (∀ W A c g cm, RdI W A n xs → RdR W g k gs → Calls Tryd.prog 27 #[.slice A n c, .slice (some ⟨g, 0, none⟩) k cm] W (OwnRes W 0 yl)) := fun W A c g cm h1 h2 => by
    rw [← hbe, ← hbl]
    exact Bridged_any A n c g k cm xs gs W h1 h2 HN.out (by omega)
  have HYL := Lib.hid hyl
  have CRB := Lib.hid hCRB
  have HGB := Lib.hid hgb
  have HOUT := Lib.hid hout
  have HIN := Lib.hid hbt
  have CI : Hid (∀ W A B c d, RdI W A n yl → RdI W B n yl → Calls Tryd.prog 15 #[.slice A n c, .slice B n d] W fun e w' => e = .returned (.bool true) ∧ ∃ k, w' = W.drewN k) := fun W A B c d h1 h2 => by
    have h := ints_any A B n n c d yl yl W h1 h2 (by omega) (by omega)
    rw [show decide (yl = yl) = true by simp] at h
    exact h
  clear hyl hbe hbl hd hd2 hCRB hgb hout hbt
  subst hBn
  obtain ⟨rfl, rfl⟩ := HB.out rfl
  obtain rfl : gs = [] := List.eq_nil_of_length_eq_zero HGL.out
  go_enter Tryd.func5, Tryd.ntmps5
  go_wp2_with fail
  refine (awake_any _ HL.out).mono ?_
  rintro e w1 ⟨rfl, hb1⟩
  have Fx1 := Lib.hid (HR.out.below hb1)
  have Fg1 := Lib.hid (HG.out.below hb1)
  have low1 := Lib.hid hb1
  clear hb1 HR HG HL
  go_wp2_with fail
  refine (CLONG.out _ _).mono ?_
  rintro e w' ⟨rfl, rfl⟩
  go_wp2_with fail
  refine (copyInts_any A n c xs _ HA.out Fx1.out HN.out).mono ?_
  rintro e w2 ⟨⟨v2, rfl, ho2⟩, hb2⟩
  have Fx2 := Lib.hid (Fx1.out.below hb2)
  have Fg2 := Lib.hid (Fg1.out.below hb2)
  have low2 := Lib.hid (low1.out.trans (hb2.mono low1.out.size))
  rw [HXL.out] at ho2
  obtain ⟨Aa, ca, rfl, _, hra, na⟩ := rd_ownN ho2
  have Fa := Lib.hid hra
  clear hb2 Fx1 Fg1 low1 ho2 hra na
  have ho : Hid ((w2.alloc (.cells #[] 28)).ownsRow w2.heap.size 28 2 (.slice (some ⟨w2.heap.size, 0, none⟩) 0 0) 0 ([] : List Value)) := World.ownsRow_lit w2 #[] 0 (Nat.le_refl _) (by unfold maxLen; omega) rfl
  go_wp2_with (at_builtin; refine wpList_append_own_none rfl (.tmp 26) (.tmp 27) 65 rfl w2.heap.size 28 i0 2 Tryd.underlying65 hi _ _ _ rfl ho.out rfl ?_)
  have hb3 : Below w2.heap.size w2 (w2.alloc (.cells #[] 28)) := (Below.refl _ _).alloc (Nat.le_refl _) _
  have hrd3 := rdR_of_own ho.out rfl (ps := [])
  obtain ⟨g, hgg⟩ : ∃ g, w2.heap.size = g := ⟨_, rfl⟩
  obtain ⟨w3, hw3⟩ : ∃ W, w2.alloc (.cells #[] 28) = W := ⟨_, rfl⟩
  rw [hgg] at hrd3
  rw [hw3] at hb3 hrd3 ⊢
  try rw [hgg]
  have FG := Lib.hid hrd3
  have Fx3 := Lib.hid (Fx2.out.below hb3)
  have Fg3 := Lib.hid (Fg2.out.below hb3)
  have Fa3 := Lib.hid (Fa.out.below hb3)
  have low3 := Lib.hid (low2.out.trans (hb3.mono low2.out.size))
  clear ho hb3 hw3 hgg hrd3 Fx2 Fg2 Fa low2
  go_wp2_with fail
  refine (CB.out _ _ _ _ _ Fa3.out FG.out).mono ?_
  rintro e w4 ⟨⟨v4, rfl, ho4⟩, hb4⟩
  have Fx4 := Lib.hid (Fx3.out.below hb4)
  have Fg4 := Lib.hid (Fg3.out.below hb4)
  have low4 := Lib.hid (low3.out.trans (hb4.mono low3.out.size))
  (rw [HYL.out] at ho4); obtain ⟨Ay, cy, rfl, _, hry, ny⟩ := rd_ownN ho4
  have Fy := Lib.hid hry
  clear hb4 Fx3 Fg3 Fa3 low3 ho4 hry ny FG
  go_wp2_with fail
  refine (CE.out _ Fx4.out).mono ?_
  rintro e w' ⟨rfl, rfl⟩
  go_wp2_with fail
  refine (CGE.out _ Fg4.out).mono ?_
  rintro e w5 ⟨rfl, hb5⟩
  have Fx5 := Lib.hid (Fx4.out.below hb5)
  have Fg5 := Lib.hid (Fg4.out.below hb5)
  have Fy5 := Lib.hid (Fy.out.below hb5)
  have low5 := Lib.hid (low4.out.trans (hb5.mono low4.out.size))
  clear hb5 Fx4 Fg4 Fy low4
  go_wp2_with fail
  refine (CRB.out _ Fx5.out Fg5.out).mono ?_
  rintro e w6 ⟨⟨v6, rfl, ho6⟩, hb6⟩
  have Fx6 := Lib.hid (Fx5.out.below hb6)
  have Fg6 := Lib.hid (Fg5.out.below hb6)
  have Fy6 := Lib.hid (Fy5.out.below hb6)
  have low6 := Lib.hid (low5.out.trans (hb6.mono low5.out.size))
  rw [HYL.out] at ho6
  obtain ⟨Az, cz, rfl, _, hrz, nz⟩ := rd_ownN ho6
  have Fz := Lib.hid hrz
  clear hb6 Fx5 Fg5 Fy5 low5 ho6 hrz nz
  go_wp2_with fail
  refine (CI.out _ _ _ _ _ Fy6.out Fz.out).mono ?_
  rintro e w' ⟨rfl, kk, rfl⟩
  have hb7 : Below w6.heap.size w6 (w6.drewN kk) := belowDrewN (Below.refl _ _) kk
  obtain ⟨w7, hw7⟩ : ∃ W, w6.drewN kk = W := ⟨_, rfl⟩
  rw [hw7] at hb7 ⊢
  have Fx7 := Lib.hid (Fx6.out.below hb7)
  have Fg7 := Lib.hid (Fg6.out.below hb7)
  have Fy7 := Lib.hid (Fy6.out.below hb7)
  have low7 := Lib.hid (low6.out.trans (hb7.mono low6.out.size))
  clear hb7 hw7 Fx6 Fg6 Fy6 Fz low6
  go_wp2
  go_loopw [8] (fun i wr => ∃ j : Nat, j ≤ n ∧ i = .int .i64 j ∧ Hid (Below w7.heap.size w7 wr)) (fun i _ => n - (intOf i).toNat)
  case atStart => exact ⟨0, Nat.zero_le _, rfl, Below.refl _ _⟩
  case round =>
    obtain ⟨j, hj, rfl, HX⟩ := hrel
    by_cases hlt : j < n
    · have hjI : (j : Int) < (n : Int) := by omega
      have hj0 : (0 : Int) ≤ (j : Int) := by omega
      go_wp2
      go_loopw [9, 10] (fun q m wq => ∃ t : Nat, t ≤ 0 ∧ m = .int .i64 t ∧ (∃ z : Int, q = .int .i64 z ∧ Hid (GapAt [] j t z)) ∧ Hid (Below w7.heap.size w7 wq)) (fun _ m _ => 0 - (intOf m).toNat)
      case atStart => exact ⟨0, Nat.zero_le _, rfl, ⟨-1, rfl, GapAt.zero _ j⟩, HX.out⟩
      case round =>
        obtain ⟨t, ht, rfl, ⟨z, rfl, HGA⟩, HY⟩ := hrel
        by_cases htl : t < 0
        · exact absurd htl (by omega)
        · obtain rfl : t = 0 := by omega
          rcases HGA.out with ⟨rfl, hno⟩ | ⟨m, hm, rfl, hig⟩
          · have HNO := Lib.hid hno
            clear hno HGA
            obtain ⟨ay, hay, _, hcy⟩ := (Fy7.out.below HY.out).2 (by omega)
            have y1 := hcy j hlt
            obtain ⟨ax, hax, _, hcx⟩ := (Fx7.out.below HY.out).2 (by omega)
            clear hcy
            cases hay
            cases hax
            have x1 := hcx j hlt
            clear hcx
            rw [HOUT.out j hlt HNO.out] at y1
            obtain ⟨v, hv⟩ : ∃ v, xs.getD j 0 = v := ⟨_, rfl⟩
            rw [hv] at x1 y1
            have hvv : (v != v) = false := bne_self_eq_false' _
            have HS2 : Hid ((fun w' : World => w'.cell? (ay.add j) = some (.int .i64 v) ∧ w'.cell? (ax.add j) = some (.int .i64 v)) wr.drew) := ⟨y1, x1⟩
            clear x1 y1 hv
            go_wp2_with fail
            refine wp_region_held_drew (S := (fun w' : World => w'.cell? (ay.add j) = some (.int .i64 v) ∧ w'.cell? (ax.add j) = some (.int .i64 v))) (by kernel_rfl) ?_ ?_
            · first | (with_reducible assumption) | exact HS2.out | exact hHeldOld
            intro hHeld
            refine wpAnyH_take (i := 0) (v := ?_) rfl (by kernel_rfl) (by kernel_rfl) (by kernel_rfl) (fun _ _ _ h => h) (Or.inl ⟨by rfl, ?_⟩) (by assumption) ?_
            rotate_left
            · intro w hSw; (try dsimp only at hSw); go_simp; (try (with_reducible rfl))
            try simp only [List.getElem_toArray, List.getElem_cons_succ, List.getElem_cons_zero, Act.put, List.setIfInBounds_toArray, List.set_cons_zero, List.set_cons_succ]
            refine wpAnyH_take (i := 1) (v := ?_) rfl (by kernel_rfl) (by kernel_rfl) (by kernel_rfl) (fun _ _ _ h => h) (Or.inl ⟨by rfl, ?_⟩) (by assumption) ?_
            rotate_left
            · intro w hSw; (try dsimp only at hSw); go_simp; (try (with_reducible rfl))
            try simp only [List.getElem_toArray, List.getElem_cons_succ, List.getElem_cons_zero, Act.put, List.setIfInBounds_toArray, List.set_cons_zero, List.set_cons_succ]
            refine wpAnyH_take (i := 2) (v := ?_) rfl (by kernel_rfl) (by kernel_rfl) (by kernel_rfl) (fun _ _ _ h => h) (Or.inl ⟨by rfl, ?_⟩) (by assumption) ?_
            rotate_left
            · intro w hSw; (try dsimp only at hSw); go_simp; (try (with_reducible rfl))
            try simp only [List.getElem_toArray, List.getElem_cons_succ, List.getElem_cons_zero, Act.put, List.setIfInBounds_toArray, List.set_cons_zero, List.set_cons_succ]
            refine wpAnyH_take (i := 3) (v := ?_) rfl (by kernel_rfl) (by kernel_rfl) (by kernel_rfl) (fun _ _ _ h => h) (Or.inl ⟨by rfl, ?_⟩) (by assumption) ?_
            rotate_left
            · intro w hSw; (try dsimp only at hSw); go_simp; (try (with_reducible rfl))
            try simp only [List.getElem_toArray, List.getElem_cons_succ, List.getElem_cons_zero, Act.put, List.setIfInBounds_toArray, List.set_cons_zero, List.set_cons_succ]
            refine wpAnyH_take (i := 4) (v := ?_) rfl (by kernel_rfl) (by kernel_rfl) (by kernel_rfl) (fun _ _ _ h => h) (Or.inl ⟨by rfl, ?_⟩) (by assumption) ?_
            rotate_left
            · intro w hSw; (try dsimp only at hSw); go_simp; (try (with_reducible rfl))
            try simp only [List.getElem_toArray, List.getElem_cons_succ, List.getElem_cons_zero, Act.put, List.setIfInBounds_toArray, List.set_cons_zero, List.set_cons_succ]
            refine wpAnyH_take (i := 5) (v := ?_) rfl (by kernel_rfl) (by kernel_rfl) (by kernel_rfl) (fun _ _ _ h => h) (Or.inl ⟨by rfl, ?_⟩) (by assumption) ?_
            rotate_left
            · intro w hSw; (try dsimp only at hSw); go_simp; (try (with_reducible rfl))
            try simp only [List.getElem_toArray, List.getElem_cons_succ, List.getElem_cons_zero, Act.put, List.setIfInBounds_toArray, List.set_cons_zero, List.set_cons_succ]
            refine wpAnyH_take (i := 6) (v := ?_) rfl (by kernel_rfl) (by kernel_rfl) (by kernel_rfl) (fun _ _ _ h => h) (Or.inl ⟨by rfl, ?_⟩) (by assumption) ?_
            rotate_left
            · intro w hSw; (try dsimp only at hSw); go_simp; (try (with_reducible rfl))
            try simp only [List.getElem_toArray, List.getElem_cons_succ, List.getElem_cons_zero, Act.put, List.setIfInBounds_toArray, List.set_cons_zero, List.set_cons_succ]
            refine wpAnyH_take (i := 7) (v := ?_) rfl (by kernel_rfl) (by kernel_rfl) (by kernel_rfl) (fun _ _ _ h => h) (Or.inl ⟨by rfl, ?_⟩) (by assumption) ?_
            rotate_left
            · intro w hSw; (try dsimp only at hSw); go_simp; (try (with_reducible rfl))
            try simp only [List.getElem_toArray, List.getElem_cons_succ, List.getElem_cons_zero, Act.put, List.setIfInBounds_toArray, List.set_cons_zero, List.set_cons_succ]
            refine wpAnyH_take (i := 8) (v := ?_) rfl (by kernel_rfl) (by kernel_rfl) (by kernel_rfl) (fun _ _ _ h => h) (Or.inl ⟨by rfl, ?_⟩) (by assumption) ?_
            rotate_left
            · intro w hSw; (try dsimp only at hSw); go_simp; (try (with_reducible rfl))
            try simp only [List.getElem_toArray, List.getElem_cons_succ, List.getElem_cons_zero, Act.put, List.setIfInBounds_toArray, List.set_cons_zero, List.set_cons_succ]
            refine wpAnyH_done (by kernel_rfl) ?_ _
            clear hHeld HS2
            go_wp2
            go_roundw
            case rel => exact ⟨j + 1, by omega, by go_num, HY.out.drew⟩
            case measure => simp [intOf]; omega
          · have HIG := Lib.hid hig
            clear hig HGA
            exact absurd hm (by omega)
    · obtain rfl : n = j := by omega
      have lw := Lib.hid (low7.out.trans (HX.out.mono low7.out.size))
      go_wp2
      go_ret
      exact ⟨rfl, lw.out⟩

end Go.Proofs.YtnmfeonagigkeaaDoor
