import Derived.Test.YtdfaeoamighcgaaDoorS4
namespace Go.Proofs.YtdfaeoamighcgaaDoor
open Go.RowKit

theorem floor2_any (n : Int) (hn : -4611686018427387904 ≤ n ∧ n ≤ 4611686018427387904) (w : World) :
    Calls Tryd.prog 111 #[.int .i64 n, .int .i64 2] w fun e w' => e = .returned (.int .i64 (n / 2)) ∧ w = w' := by
  have hf := Lib.hid (tdiv_floor n 2 (by omega))
  have hq : -4611686018427387904 ≤ n.tdiv 2 ∧ n.tdiv 2 ≤ 4611686018427387904 := by
    have h1 := Int.natAbs_tdiv_le_natAbs n 2
    omega
  have HQ := Lib.hid hq
  clear hq
  go_enter Tryd.func111, Tryd.ntmps111
  go_wp2
  all_goals go_ret
  · have h : n.tmod 2 < 0 := by assumption
    have h2 := hf.out
    have h3 := HQ.out
    rw [if_pos h] at h2
    refine ⟨?_, rfl⟩
    show Ending.returned (Value.int .i64 (wrap64 (n.tdiv 2 - 1))) = _
    rw [IntWalk.wrap64_in _ ⟨by omega, by omega⟩, h2]
  · have h : 0 ≤ n.tmod 2 := by assumption
    have h2 := hf.out
    rw [if_neg (by omega)] at h2
    refine ⟨?_, rfl⟩
    show Ending.returned (Value.int .i64 (n.tdiv 2)) = _
    rw [h2]
theorem mod2_any (n : Int) (w : World) :
    Calls Tryd.prog 120 #[.int .i64 n, .int .i64 2] w fun e w' => e = .returned (.int .i64 (n % 2)) ∧ w = w' := by
  obtain ⟨m, hm⟩ : ∃ m, n.tmod 2 = m := ⟨_, rfl⟩
  obtain ⟨m', e1, e2, e3⟩ := half (x := n) rfl
  have e4 : m = n - 2 * n.tdiv 2 := by rw [← hm]; have := Int.mul_tdiv_add_tmod n 2; omega
  have HE : Hid (n % 2 = if m < 0 then m + 2 else m) := by show _ = _; split <;> omega
  have hw : IntKind.i64.wrap (m + 2) = m + 2 := IntWalk.i64_in _ (by omega)
  clear e1 e2 e3 e4
  by_cases h0 : m < 0
  all_goals
    go_enter Tryd.func120, Tryd.ntmps120
    go_wp2
    go_ret
    exact ⟨by rw [HE.out]; first | (rw [if_pos h0]; rfl) | (rw [if_neg (by omega)]; rfl), rfl⟩

set_option maxRecDepth 100000 in
set_option maxHeartbeats 8000000 in
theorem refWallsOf_any (A : Option Addr) (n c : Nat) (ms : List (Int × Int)) (w : World) (hr : RdP w A n ms) (hn : n ≤ 1000000) :
    Calls Tryd.prog 79 #[.slice A n c] w (OwnResW w (matsE ms) (wlsL ms)) := by
  have HR := Lib.hid hr
  have HLN : Hid (ms.length = n) := hr.1
  have HE : Hid (matsE ms = if 200 < n then 8 else matsF ms) := by show _ = _; unfold matsE; rw [hr.1]
  clear hr
  obtain ⟨i0, hi0, hz0, hz1, hz2⟩ := info_parts wlsInfo
  by_cases h1 : 200 < n
  · have h1I : (200 : Int) < (n : Int) := by omega
    have HFE : Hid (matsE ms = 8) := by show _ = _; rw [HE.out, if_pos h1]
    have HL : Hid (wlsL ms = []) := by show _ = _; unfold wlsL; rw [if_neg (by rw [HFE.out]; decide)]
    go_enter Tryd.func79, Tryd.ntmps79
    go_wp2
    go_ret2
    rw [HFE.out, HL.out]
    exact OwnResW.none_ (Below.refl _ _)
  · have h1I : ¬ (200 : Int) < (n : Int) := by omega
    have HE2 : Hid (matsE ms = matsF ms) := by show _ = _; rw [HE.out, if_neg h1]
    clear HE h1
    go_enter Tryd.func79, Tryd.ntmps79
    go_wp2
    go_loopw [4, 5] (fun p i wr => ∃ k : Nat, k ≤ n ∧ i = .int .i64 k ∧ Hid (matsF ms = matsF (ms.drop k)) ∧ Hid (wr.ownsRow w.heap.size 133 2 p k (pairCells ((ms.take k).map wlsP)) ∧ Below w.heap.size w wr)) (fun _ i _ => n - (intOf i).toNat)
    case atStart => exact ⟨0, Nat.zero_le _, rfl, rfl, World.ownsRow_nil _ _ _ _, Below.refl _ _⟩
    case round =>
      obtain ⟨k, hk, rfl, HF, HI⟩ := hrel
      by_cases hlt : k < n
      · have hkI : (k : Int) < (n : Int) := by omega
        have hk0 : (0 : Int) ≤ (k : Int) := by omega
        obtain ⟨ad, ha, hadb, hc⟩ := (HR.out.below HI.out.2).2 (by omega)
        obtain ⟨q1, q2⟩ := hc k hlt
        clear hc
        subst ha
        have hstep := matsF_step ms k (by rw [HLN.out]; exact hlt)
        have htk : ms.take (k + 1) = ms.take k ++ [ms.getD k (0, 0)] := by
          rw [List.take_succ_eq_append_getElem (by rw [HLN.out]; exact hlt)]
          simp [List.getD_eq_getElem?_getD, List.getElem?_eq_getElem (show k < ms.length by rw [HLN.out]; exact hlt)]
        obtain ⟨⟨a, b⟩, hxy⟩ : ∃ p, ms.getD k (0, 0) = p := ⟨_, rfl⟩
        rw [hxy] at q1 q2 hstep htk
        dsimp only at q1 q2
        have HST := Lib.hid hstep
        have HTK := Lib.hid htk
        clear hstep htk hxy
        obtain ⟨ak, hak⟩ : ∃ x, ad.add (k * 2) = x := ⟨_, rfl⟩
        rw [hak] at q1 q2
        obtain ⟨ak1, hak1⟩ : ∃ x, ak.add 1 = x := ⟨_, rfl⟩
        rw [hak1] at q2
        have HS2 : Hid ((fun w' : World => w'.cell? ak = some (.int .i64 a) ∧ w'.cell? ak1 = some (.int .i64 b)) wr.drew) := ⟨q1, q2⟩
        clear q1 q2
        go_wp2_with fail
        refine wp_region_held_drew (S := (fun w' : World => w'.cell? ak = some (.int .i64 a) ∧ w'.cell? ak1 = some (.int .i64 b))) (by kernel_rfl) ?_ ?_
        · exact HS2.out
        intro hHeld
        refine wpAnyH_take (i := 0) (v := ?_) rfl (by kernel_rfl) (by kernel_rfl) (by kernel_rfl) (fun _ _ _ h => h) (Or.inl ⟨by rfl, ?_⟩) (by assumption) ?_
        rotate_left
        · intro w hSw; (try dsimp only at hSw); go_simp; (try (with_reducible rfl))
        try simp only [List.getElem_toArray, List.getElem_cons_succ, List.getElem_cons_zero, Act.put, List.setIfInBounds_toArray, List.set_cons_zero, List.set_cons_succ]
        refine wpAnyH_take (i := 1) (v := ?_) rfl (by kernel_rfl) (by kernel_rfl) (by kernel_rfl) (fun _ _ _ h => h) (Or.inl ⟨by rfl, ?_⟩) (by assumption) ?_
        rotate_left
        · intro w hSw; (try dsimp only at hSw); go_simp; (try (with_reducible rfl))
        try simp only [List.getElem_toArray, List.getElem_cons_succ, List.getElem_cons_zero, Act.put, List.setIfInBounds_toArray, List.set_cons_zero, List.set_cons_succ]
        refine wpAnyH_take (i := 2) (v := ?_) rfl (by kernel_rfl) (by kernel_rfl) (by kernel_rfl) (fun _ _ _ h => h) (Or.inl ⟨by rfl, ?_⟩) (by assumption) ?_
        rotate_left
        · intro w hSw; (try dsimp only at hSw); go_simp; (try (with_reducible rfl))
        try simp only [List.getElem_toArray, List.getElem_cons_succ, List.getElem_cons_zero, Act.put, List.setIfInBounds_toArray, List.set_cons_zero, List.set_cons_succ]
        refine wpAnyH_take (i := 3) (v := ?_) rfl (by kernel_rfl) (by kernel_rfl) (by kernel_rfl) (fun _ _ _ h => h) (Or.inl ⟨by rfl, ?_⟩) (by assumption) ?_
        rotate_left
        · intro w hSw; (try dsimp only at hSw); go_simp; (try (with_reducible rfl))
        try simp only [List.getElem_toArray, List.getElem_cons_succ, List.getElem_cons_zero, Act.put, List.setIfInBounds_toArray, List.set_cons_zero, List.set_cons_succ]
        refine wpAnyH_take (i := 4) (v := ?_) rfl (by kernel_rfl) (by kernel_rfl) (by kernel_rfl) (fun _ _ _ h => h) (Or.inl ⟨by rfl, ?_⟩) (by assumption) ?_
        rotate_left
        · intro w hSw; (try dsimp only at hSw); go_simp; (try (with_reducible rfl))
        try simp only [List.getElem_toArray, List.getElem_cons_succ, List.getElem_cons_zero, Act.put, List.setIfInBounds_toArray, List.set_cons_zero, List.set_cons_succ]
        refine wpAnyH_take (i := 5) (v := ?_) rfl (by kernel_rfl) (by kernel_rfl) (by kernel_rfl) (fun _ _ _ h => h) (Or.inl ⟨by rfl, ?_⟩) (by assumption) ?_
        rotate_left
        · intro w hSw; (try dsimp only at hSw); go_simp; (try (with_reducible rfl))
        try simp only [List.getElem_toArray, List.getElem_cons_succ, List.getElem_cons_zero, Act.put, List.setIfInBounds_toArray, List.set_cons_zero, List.set_cons_succ]
        refine wpAnyH_take (i := 6) (v := ?_) rfl (by kernel_rfl) (by kernel_rfl) (by kernel_rfl) (fun _ _ _ h => h) (Or.inl ⟨by rfl, ?_⟩) (by assumption) ?_
        rotate_left
        · intro w hSw; (try dsimp only at hSw); go_simp; (try (with_reducible rfl))
        try simp only [List.getElem_toArray, List.getElem_cons_succ, List.getElem_cons_zero, Act.put, List.setIfInBounds_toArray, List.set_cons_zero, List.set_cons_succ]
        refine wpAnyH_take (i := 7) (v := ?_) rfl (by kernel_rfl) (by kernel_rfl) (by kernel_rfl) (fun _ _ _ h => h) (Or.inl ⟨by rfl, ?_⟩) (by assumption) ?_
        rotate_left
        · intro w hSw; (try dsimp only at hSw); go_simp; (try (with_reducible rfl))
        try simp only [List.getElem_toArray, List.getElem_cons_succ, List.getElem_cons_zero, Act.put, List.setIfInBounds_toArray, List.set_cons_zero, List.set_cons_succ]
        refine wpAnyH_take (i := 8) (v := ?_) rfl (by kernel_rfl) (by kernel_rfl) (by kernel_rfl) (fun _ _ _ h => h) (Or.inl ⟨by rfl, ?_⟩) (by assumption) ?_
        rotate_left
        · intro w hSw; (try dsimp only at hSw); go_simp; (try (with_reducible rfl))
        try simp only [List.getElem_toArray, List.getElem_cons_succ, List.getElem_cons_zero, Act.put, List.setIfInBounds_toArray, List.set_cons_zero, List.set_cons_succ]
        refine wpAnyH_take (i := 9) (v := ?_) rfl (by kernel_rfl) (by kernel_rfl) (by kernel_rfl) (fun _ _ _ h => h) (Or.inl ⟨by rfl, ?_⟩) (by assumption) ?_
        rotate_left
        · intro w hSw; (try dsimp only at hSw); go_simp; (try (with_reducible rfl))
        try simp only [List.getElem_toArray, List.getElem_cons_succ, List.getElem_cons_zero, Act.put, List.setIfInBounds_toArray, List.set_cons_zero, List.set_cons_succ]
        refine wpAnyH_take (i := 10) (v := ?_) rfl (by kernel_rfl) (by kernel_rfl) (by kernel_rfl) (fun _ _ _ h => h) (Or.inl ⟨by rfl, ?_⟩) (by assumption) ?_
        rotate_left
        · intro w hSw; (try dsimp only at hSw); go_simp; (try (with_reducible rfl))
        try simp only [List.getElem_toArray, List.getElem_cons_succ, List.getElem_cons_zero, Act.put, List.setIfInBounds_toArray, List.set_cons_zero, List.set_cons_succ]
        refine wpAnyH_take (i := 11) (v := ?_) rfl (by kernel_rfl) (by kernel_rfl) (by kernel_rfl) (fun _ _ _ h => h) (Or.inl ⟨by rfl, ?_⟩) (by assumption) ?_
        rotate_left
        · intro w hSw; (try dsimp only at hSw); go_simp; (try (with_reducible rfl))
        try simp only [List.getElem_toArray, List.getElem_cons_succ, List.getElem_cons_zero, Act.put, List.setIfInBounds_toArray, List.set_cons_zero, List.set_cons_succ]
        refine wpAnyH_done (by kernel_rfl) ?_ _
        clear hHeld HS2
        have HI2 : Hid (wr.drew.ownsRow w.heap.size 133 2 _ k (pairCells ((ms.take k).map wlsP)) ∧ Below w.heap.size w wr.drew) := ⟨HI.out.1.drew, HI.out.2.drew⟩
        obtain ⟨w1, hw1⟩ : ∃ W, wr.drew = W := ⟨_, rfl⟩
        rw [hw1] at HI2 ⊢
        clear HI hw1 hak hak1 hadb
        have hsp : fromB (-2000000) 2000000 [a, b] = (fromB (-2000000) 2000000 [a] && fromB (-2000000) 2000000 [b]) := by simp [fromB]
        have WA : Hid (∀ W, Calls Tryd.prog 33 #[.int .i64 a, .int .i64 (-2000000), .int .i64 2000000] W fun e w' => e = .returned (.bool (fromB (-2000000) 2000000 [a])) ∧ W = w') := fun W => within_any a _ _ W
        have WB : Hid (∀ W, Calls Tryd.prog 33 #[.int .i64 b, .int .i64 (-2000000), .int .i64 2000000] W fun e w' => e = .returned (.bool (fromB (-2000000) 2000000 [b])) ∧ W = w') := fun W => within_any b _ _ W
        by_cases ha1 : fromB (-2000000) 2000000 [a] = true
        · rw [ha1] at WA hsp
          by_cases hb1 : fromB (-2000000) 2000000 [b] = true
          · rw [hb1] at WB hsp
            have hfd := from_pair hsp
            have HSP : Hid (fromB (-2000000) 2000000 [a, b] = true) := hsp
            clear hsp ha1 hb1
            by_cases hp : a % 2 = b % 2
            · have hpI : (a % 2 != b % 2) = false := by rw [hp]; simp
              by_cases hbn : b < 0
              · have hbd : decide (b < 0) = true := decide_eq_true hbn
                have hme : matE (a, b) = 9 := by unfold matE; dsimp only; rw [if_pos HSP.out, if_pos hp, if_pos hbn]
                have HFE : Hid (matsE ms = 9) := by show _ = _; rw [HE2.out, HF.out, HST.out, if_neg (by rw [hme]; decide), hme]
                have HL : Hid (wlsL ms = []) := by show _ = _; unfold wlsL; rw [if_neg (by rw [HFE.out]; decide)]
                clear hme HST
                clear hp
                go_wp2_with fail
                refine (WA.out _).mono ?_
                rintro e w' ⟨rfl, rfl⟩
                go_wp2_with fail
                refine (WB.out _).mono ?_
                rintro e w' ⟨rfl, rfl⟩
                go_wp2_with fail
                refine (mod2_any a _).mono ?_
                rintro e w' ⟨rfl, rfl⟩
                go_wp2_with fail
                refine (mod2_any b _).mono ?_
                rintro e w' ⟨rfl, rfl⟩
                go_wp2
                go_ret2
                rw [HFE.out, HL.out]
                exact OwnResW.none_ HI2.out.2
              · have hbd : decide (b < 0) = false := decide_eq_false hbn
                obtain ⟨L, hL⟩ : ∃ L, (a - b) / 2 = L := ⟨_, rfl⟩
                obtain ⟨R, hR⟩ : ∃ R, (a + b) / 2 = R := ⟨_, rfl⟩
                have hz1' : IntKind.i64.wrap (a - b) = a - b := IntWalk.i64_in _ (by omega)
                have hz2' : IntKind.i64.wrap (a + b) = a + b := IntWalk.i64_in _ (by omega)
                have FA : Hid (∀ W, Calls Tryd.prog 111 #[.int .i64 (a - b), .int .i64 2] W fun e w' => e = .returned (.int .i64 L) ∧ W = w') := fun W => by rw [← hL]; exact floor2_any _ (by omega) W
                have FB : Hid (∀ W, Calls Tryd.prog 111 #[.int .i64 (a + b), .int .i64 2] W fun e w' => e = .returned (.int .i64 R) ∧ W = w') := fun W => by rw [← hR]; exact floor2_any _ (by omega) W
                have hme0 : matE (a, b) = if fromB (-1000000) 1000000 [L, R] = true then 0 else 23 := by unfold matE; dsimp only; rw [if_pos HSP.out, if_pos hp, if_neg hbn, ← hL, ← hR]
                have HPE : Hid (posE [L, R] = if fromB (-1000000) 1000000 [L, R] = true then 0 else 2) := rfl
                have HWP : Hid (wlsP (a, b) = (L, R)) := by show _ = _; rw [← hL, ← hR]; rfl
                have CP := Lib.hid (refPosErr_any (some ⟨(w1.alloc (.cells #[.int .i64 L, .int .i64 R] 133)).heap.size, 0, none⟩) 2 2 [L, R] ((w1.alloc (.cells #[.int .i64 L, .int .i64 R] 133)).alloc (.cells #[.int .i64 L, .int .i64 R] 3)) (lit2 _ _ _ _ (by simp [go_sem]) (by simp [go_sem])) (by omega))
                rw [World.size_alloc] at CP
                clear hL hR hp
                by_cases ho : fromB (-1000000) 1000000 [L, R] = true
                · rw [if_pos ho] at hme0
                  rw [show posE [L, R] = 0 by rw [HPE.out, if_pos ho]] at CP
                  have HF2 : Hid (matsF ms = matsF (ms.drop (k + 1))) := by show _ = _; rw [HF.out, HST.out, if_pos hme0]
                  clear ho hme0 HPE HST
                  go_wp2_with fail
                  refine (WA.out _).mono ?_
                  rintro e w' ⟨rfl, rfl⟩
                  go_wp2_with fail
                  refine (WB.out _).mono ?_
                  rintro e w' ⟨rfl, rfl⟩
                  go_wp2_with fail
                  refine (mod2_any a _).mono ?_
                  rintro e w' ⟨rfl, rfl⟩
                  go_wp2_with fail
                  refine (mod2_any b _).mono ?_
                  rintro e w' ⟨rfl, rfl⟩
                  go_wp2_with fail
                  refine (FA.out _).mono ?_
                  rintro e w' ⟨rfl, rfl⟩
                  go_wp2_with fail
                  refine (FB.out _).mono ?_
                  rintro e w' ⟨rfl, rfl⟩
                  go_wp2_with fail
                  refine CP.out.mono ?_
                  rintro e w' ⟨rfl, rfl⟩
                  obtain ⟨w2, hw2⟩ : ∃ W, (w1.alloc (.cells #[.int .i64 L, .int .i64 R] 133)).alloc (.cells #[.int .i64 L, .int .i64 R] 3) = W := ⟨_, rfl⟩
                  have HO2 := Lib.hid ((HI2.out.1.alloc (.cells #[.int .i64 L, .int .i64 R] 133)).alloc (.cells #[.int .i64 L, .int .i64 R] 3))
                  have HB2 := Lib.hid ((HI2.out.2.alloc HI2.out.2.size (.cells #[.int .i64 L, .int .i64 R] 133)).alloc (by have := HI2.out.2.size; simp; omega) (.cells #[.int .i64 L, .int .i64 R] 3))
                  have d0 : w2.cell? ⟨w1.heap.size, 0, none⟩ = some (.int .i64 L) := by rw [← hw2]; exact cellA _ (by simp [go_sem])
                  have d1 : w2.cell? ⟨w1.heap.size, 1, none⟩ = some (.int .i64 R) := by rw [← hw2]; exact cellA _ (by simp [go_sem])
                  rw [hw2] at HO2 HB2 ⊢
                  clear hw2 CP HI2
                  have hzW : w.heap.size ≤ w2.heap.size := HB2.out.size
                  go_wp2_with (at_builtin; refine wpList_append_own _ rfl (.tmp 59) (.tmp 61) 121 rfl w.heap.size 133 i0 _ 2 16 Tryd.underlying121 hi0 hz0 hz1 hz2 rfl (by decide) _ _ _ rfl (HO2.out.alloc _) ⟨w2.heap.size, 0, none⟩ 1 1 [.int .i64 L, .int .i64 R] rfl rfl (two_new _ _ _ _) (by simp [Value.oneCell']) (by unfold maxLen; omega) (by omega) (by simp; omega) ?_)
                  intro v' w4 hown' hgrow _
                  have HN : Hid (w4.ownsRow w.heap.size 133 2 v' (k + 1) (pairCells ((ms.take (k + 1)).map wlsP)) ∧ Below w.heap.size w w4) := by
                    refine ⟨?_, (HB2.out.alloc HB2.out.size _).grown hgrow (by simp; omega) (fun z e => (HO2.out.lt z e).1)⟩
                    rw [HTK.out, List.map_append, List.map_cons, List.map_nil, pairCells_snoc, List.map_take, HWP.out]
                    exact hown'
                  clear hown' hgrow d0 d1
                  go_wp2
                  go_roundw
                  case rel => exact ⟨k + 1, by omega, by go_num, HF2.out, HN.out⟩
                  case measure => simp [intOf]; omega
                · rw [if_neg ho] at hme0
                  rw [show posE [L, R] = 2 by rw [HPE.out, if_neg ho]] at CP
                  have hme : matE (a, b) = 23 := by exact hme0
                  have HFE : Hid (matsE ms = 23) := by show _ = _; rw [HE2.out, HF.out, HST.out, if_neg (by rw [hme]; decide), hme]
                  have HL : Hid (wlsL ms = []) := by show _ = _; unfold wlsL; rw [if_neg (by rw [HFE.out]; decide)]
                  clear hme HST
                  clear ho hme0 HPE
                  have HBG : Hid (Below w.heap.size w ((w1.alloc (.cells #[.int .i64 L, .int .i64 R] 133)).alloc (.cells #[.int .i64 L, .int .i64 R] 3))) := (HI2.out.2.alloc HI2.out.2.size (.cells #[.int .i64 L, .int .i64 R] 133)).alloc (by have := HI2.out.2.size; simp; omega) (.cells #[.int .i64 L, .int .i64 R] 3)
                  go_wp2_with fail
                  refine (WA.out _).mono ?_
                  rintro e w' ⟨rfl, rfl⟩
                  go_wp2_with fail
                  refine (WB.out _).mono ?_
                  rintro e w' ⟨rfl, rfl⟩
                  go_wp2_with fail
                  refine (mod2_any a _).mono ?_
                  rintro e w' ⟨rfl, rfl⟩
                  go_wp2_with fail
                  refine (mod2_any b _).mono ?_
                  rintro e w' ⟨rfl, rfl⟩
                  go_wp2_with fail
                  refine (FA.out _).mono ?_
                  rintro e w' ⟨rfl, rfl⟩
                  go_wp2_with fail
                  refine (FB.out _).mono ?_
                  rintro e w' ⟨rfl, rfl⟩
                  go_wp2_with fail
                  refine CP.out.mono ?_
                  rintro e w' ⟨rfl, rfl⟩
                  go_wp2
                  go_ret2
                  rw [HFE.out, HL.out]
                  exact OwnResW.none_ HBG.out
            · have hpI : (a % 2 != b % 2) = true := by rw [bne_iff_ne]; exact hp
              have hme : matE (a, b) = 3 := by unfold matE; dsimp only; rw [if_pos HSP.out, if_neg hp]
              have HFE : Hid (matsE ms = 3) := by show _ = _; rw [HE2.out, HF.out, HST.out, if_neg (by rw [hme]; decide), hme]
              have HL : Hid (wlsL ms = []) := by show _ = _; unfold wlsL; rw [if_neg (by rw [HFE.out]; decide)]
              clear hme HST
              clear hp
              go_wp2_with fail
              refine (WA.out _).mono ?_
              rintro e w' ⟨rfl, rfl⟩
              go_wp2_with fail
              refine (WB.out _).mono ?_
              rintro e w' ⟨rfl, rfl⟩
              go_wp2_with fail
              refine (mod2_any a _).mono ?_
              rintro e w' ⟨rfl, rfl⟩
              go_wp2_with fail
              refine (mod2_any b _).mono ?_
              rintro e w' ⟨rfl, rfl⟩
              go_wp2
              go_ret2
              rw [HFE.out, HL.out]
              exact OwnResW.none_ HI2.out.2
          · have hbF : fromB (-2000000) 2000000 [b] = false := by cases h : fromB (-2000000) 2000000 [b] with | false => rfl | true => exact absurd h hb1
            rw [hbF] at WB hsp
            have hme : matE (a, b) = 2 := by unfold matE; dsimp only; rw [if_neg (by rw [hsp]; decide)]
            have HFE : Hid (matsE ms = 2) := by show _ = _; rw [HE2.out, HF.out, HST.out, if_neg (by rw [hme]; decide), hme]
            have HL : Hid (wlsL ms = []) := by show _ = _; unfold wlsL; rw [if_neg (by rw [HFE.out]; decide)]
            clear hme HST
            clear hsp ha1 hb1 hbF
            go_wp2_with fail
            refine (WA.out _).mono ?_
            rintro e w' ⟨rfl, rfl⟩
            go_wp2_with fail
            refine (WB.out _).mono ?_
            rintro e w' ⟨rfl, rfl⟩
            go_wp2
            go_ret2
            rw [HFE.out, HL.out]
            exact OwnResW.none_ HI2.out.2
        · have haF : fromB (-2000000) 2000000 [a] = false := by cases h : fromB (-2000000) 2000000 [a] with | false => rfl | true => exact absurd h ha1
          rw [haF] at WA hsp
          have hme : matE (a, b) = 2 := by unfold matE; dsimp only; rw [if_neg (by rw [hsp]; simp)]
          have HFE : Hid (matsE ms = 2) := by show _ = _; rw [HE2.out, HF.out, HST.out, if_neg (by rw [hme]; decide), hme]
          have HL : Hid (wlsL ms = []) := by show _ = _; unfold wlsL; rw [if_neg (by rw [HFE.out]; decide)]
          clear hme HST
          clear hsp ha1 haF
          go_wp2_with fail
          refine (WA.out _).mono ?_
          rintro e w' ⟨rfl, rfl⟩
          go_wp2
          go_ret2
          rw [HFE.out, HL.out]
          exact OwnResW.none_ HI2.out.2
      · obtain rfl : k = n := by omega
        have HF2 : Hid (matsE ms = 0) := by show _ = _; rw [HE2.out, HF.out, List.drop_eq_nil_of_le (by rw [HLN.out]; exact Nat.le_refl _)]; rfl
        have HL : Hid (wlsL ms = ms.map wlsP) := by show _ = _; unfold wlsL; rw [if_pos HF2.out]
        have HT : Hid (ms.take k = ms) := by show _ = _; rw [List.take_of_length_le (by rw [HLN.out]; exact Nat.le_refl _)]
        go_wp2
        go_ret2
        rw [HF2.out, HL.out]
        refine ⟨⟨_, rfl, ?_⟩, HI.out.2⟩
        have h := HI.out.1
        rw [HT.out] at h
        rw [List.length_map, HLN.out]
        exact h

end Go.Proofs.YtdfaeoamighcgaaDoor
