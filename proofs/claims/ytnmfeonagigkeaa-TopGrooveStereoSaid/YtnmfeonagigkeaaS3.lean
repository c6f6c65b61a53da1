import Derived.Test.YtnmfeonagigkeaaS2
namespace Go.Proofs.Ytnmfeonagigkeaa
open Go.RowKit

set_option maxRecDepth 100000 in
theorem wallsOf_run (a b x y l r : Int) (w : World) (h1 : IntKind.i64.wrap (a - b) = x) (h2 : IntKind.i64.wrap (a + b) = y) (h3 : IntKind.i64.wrap (x.tdiv 2) = l) (h4 : IntKind.i64.wrap (y.tdiv 2) = r) :
    Calls Try.prog 26 #[.agg #[.int .i64 a, .int .i64 b]] w fun e w' => e = .returned (.agg #[.int .i64 l, .int .i64 r]) ∧ Below w.heap.size w w' := by
  go_enter Try.func26, Try.ntmps26
  go_wp2
  refine bodyPost_ret (v := .agg #[.int .i64 l, .int .i64 r]) (by simp [results, Try.results26, go_sem]) rfl ⟨rfl, ?_⟩
  exact ((Below.refl _ w).alloc (Nat.le_refl _) _).alloc (by simp) _

theorem half {x q : Int} (h : x.tdiv 2 = q) : ∃ m : Int, 2 * q + m = x ∧ -1 ≤ m ∧ m ≤ 1 := by
  refine ⟨x.tmod 2, ?_, ?_, ?_⟩
  · rw [← h]; exact Int.mul_tdiv_add_tmod x 2
  · have := Int.lt_tmod_of_pos x (show (0 : Int) < 2 by omega); omega
  · have := Int.tmod_lt_of_pos x (show (0 : Int) < 2 by omega); omega
theorem from_pair {lo hi a b : Int} (h : fromB lo hi [a, b] = true) : lo ≤ a ∧ a ≤ hi ∧ lo ≤ b ∧ b ≤ hi := by simp [fromB] at h; omega
/-- The error of a matrix, and its walls. -/
def matE (p : Int × Int) : Int := if fromB (-2000000) 2000000 [p.1, p.2] = true then (if p.1 % 2 = p.2 % 2 then (if p.2 < 0 then 9 else if fromB (-1000000) 1000000 [(p.1 - p.2) / 2, (p.1 + p.2) / 2] = true then 0 else 23) else 3) else 2
def wlsP (p : Int × Int) : Int × Int := ((p.1 - p.2) / 2, (p.1 + p.2) / 2)

set_option maxRecDepth 100000 in
set_option maxHeartbeats 4000000 in
theorem checkMatrix_any (a b : Int) (w : World) :
    Calls Try.prog 25 #[.agg #[.int .i64 a, .int .i64 b]] w fun e w' => e = .returned (.int .i64 (matE (a, b))) ∧ Below w.heap.size w w' := by
  have b0 := (Below.refl w.heap.size w).alloc (Nat.le_refl _) (.cells #[.int .i64 a, .int .i64 b] 34)
  have k0 := Bk.new w 34 #[.int .i64 a, .int .i64 b]
  obtain ⟨W0, hW0⟩ : ∃ W0, w.alloc (.cells #[.int .i64 a, .int .i64 b] 34) = W0 := ⟨_, rfl⟩
  rw [hW0] at b0 k0
  have B0 := Lib.hid b0
  have K0 := Lib.hid k0
  have HW0 := Lib.hid hW0
  clear b0 k0 hW0
  by_cases hf : fromB (-2000000) 2000000 [a, b] = true
  · obtain ⟨l, r, hl, hr⟩ : ∃ l r, (a - b).tdiv 2 = l ∧ (a + b).tdiv 2 = r := ⟨_, _, rfl, rfl⟩
    have hfd := from_pair hf
    obtain ⟨m1, h11, h12⟩ := half hl
    obtain ⟨m2, h21, h22⟩ := half hr
    have hME : Hid (matE (a, b) = if l + r = a ∧ r - l = b then (if b < 0 then 9 else if fromB (-1000000) 1000000 [l, r] = true then 0 else 23) else 3) := by
      show _ = _
      unfold matE
      rw [if_pos hf]
      dsimp only
      by_cases hp : a % 2 = b % 2
      · have e1 : l + r = a ∧ r - l = b := by omega
        rw [if_pos hp, if_pos e1, show (a - b) / 2 = l by omega, show (a + b) / 2 = r by omega]
      · have e1 : ¬ (l + r = a ∧ r - l = b) := by omega
        rw [if_neg hp, if_neg e1]
    have CW := Lib.hid (wallsOf_run a b (a - b) (a + b) l r W0 (IntWalk.i64_in _ (by omega)) (IntWalk.i64_in _ (by omega)) (by rw [hl]; exact IntWalk.i64_in _ (by omega)) (by rw [hr]; exact IntWalk.i64_in _ (by omega)))
    have CM : Hid (∀ W, Calls Try.prog 18 #[.agg #[.int .i64 l, .int .i64 r]] W fun e w' => e = .returned (.agg #[.int .i64 (l + r), .int .i64 (r - l)]) ∧ Below W.heap.size W w') := fun W => matrixOf_any l r W (by omega) (by omega)
    clear hl hr h11 h12 h21 h22
    go_enter Try.func25, Try.ntmps25
    go_wp2_with fail
    rw [HW0.out]
    refine CW.out.mono ?_
    rintro e w1 ⟨rfl, hb1⟩
    have B1 := Lib.hid (B0.out.trans (hb1.mono B0.out.size))
    have K1 := Lib.hid (K0.out.later hb1)
    clear hb1 CW HW0
    have a0 : (w1.alloc (.cells #[.int .i64 l, .int .i64 r] 36)).cell? ⟨w.heap.size, 0, none⟩ = some (.int .i64 a) := cellA _ (by rw [K1.out.cell]; rfl)
    have a1 : (w1.alloc (.cells #[.int .i64 l, .int .i64 r] 36)).cell? ⟨w.heap.size, 1, none⟩ = some (.int .i64 b) := cellA _ (by rw [K1.out.cell]; rfl)
    have CA := Lib.hid (areAtMost_any (some ⟨(w1.alloc (.cells #[.int .i64 l, .int .i64 r] 36)).heap.size, 0, none⟩) 2 2 [a, b] 2000000 ((w1.alloc (.cells #[.int .i64 l, .int .i64 r] 36)).alloc (.cells #[.int .i64 a, .int .i64 b] 3)) (lit2 _ _ _ _ (by simp [go_sem]) (by simp [go_sem])) (by omega) (by omega))
    rw [show (-(2000000 : Int)) = -2000000 from rfl, hf, World.size_alloc] at CA
    go_wp2_with fail
    refine CA.out.mono ?_
    rintro e w' ⟨rfl, rfl⟩
    clear CA a0 a1 hf
    obtain ⟨w2, hw2⟩ : ∃ W2, ((w1.alloc (.cells #[.int .i64 l, .int .i64 r] 36)).alloc (.cells #[.int .i64 a, .int .i64 b] 3)) = W2 := ⟨_, rfl⟩
    have c0 : w2.cell? ⟨w1.heap.size, 0, none⟩ = some (.int .i64 l) := by rw [← hw2]; exact cellA _ (by simp [go_sem])
    have c1 : w2.cell? ⟨w1.heap.size, 1, none⟩ = some (.int .i64 r) := by rw [← hw2]; exact cellA _ (by simp [go_sem])
    have c2 : w2.cell? ⟨w.heap.size, 0, none⟩ = some (.int .i64 a) := by rw [← hw2]; exact cellA _ (cellA _ (by rw [K1.out.cell]; rfl))
    have c3 : w2.cell? ⟨w.heap.size, 1, none⟩ = some (.int .i64 b) := by rw [← hw2]; exact cellA _ (cellA _ (by rw [K1.out.cell]; rfl))
    have hb2 : Below w.heap.size w w2 := by rw [← hw2]; exact (B1.out.alloc B1.out.size _).alloc (by have := B1.out.size; simp; omega) _
    have B2 := Lib.hid hb2
    rw [hw2]
    clear hw2 K1 K0 B0 B1 hb2
    have HS0 : Hid ((fun w' : World => w'.cell? ⟨w1.heap.size, 0, none⟩ = some (.int .i64 l) ∧ w'.cell? ⟨w1.heap.size, 1, none⟩ = some (.int .i64 r) ∧ w'.cell? ⟨w.heap.size, 0, none⟩ = some (.int .i64 a) ∧ w'.cell? ⟨w.heap.size, 1, none⟩ = some (.int .i64 b) ∧ Below w2.heap.size w2 w') w2.drew) := ⟨c0, c1, c2, c3, (Below.refl _ _).drew⟩
    have HSB : Hid (∀ (V V' : World), (fun w' : World => w'.cell? ⟨w1.heap.size, 0, none⟩ = some (.int .i64 l) ∧ w'.cell? ⟨w1.heap.size, 1, none⟩ = some (.int .i64 r) ∧ w'.cell? ⟨w.heap.size, 0, none⟩ = some (.int .i64 a) ∧ w'.cell? ⟨w.heap.size, 1, none⟩ = some (.int .i64 b) ∧ Below w2.heap.size w2 w') V → Below V.heap.size V V' → (fun w' : World => w'.cell? ⟨w1.heap.size, 0, none⟩ = some (.int .i64 l) ∧ w'.cell? ⟨w1.heap.size, 1, none⟩ = some (.int .i64 r) ∧ w'.cell? ⟨w.heap.size, 0, none⟩ = some (.int .i64 a) ∧ w'.cell? ⟨w.heap.size, 1, none⟩ = some (.int .i64 b) ∧ Below w2.heap.size w2 w') V') := fun V V' h hb => ⟨(hb.cell (World.block_lt_of_cell? _ _ h.1)).trans h.1, (hb.cell (World.block_lt_of_cell? _ _ h.2.1)).trans h.2.1, (hb.cell (World.block_lt_of_cell? _ _ h.2.2.1)).trans h.2.2.1, (hb.cell (World.block_lt_of_cell? _ _ h.2.2.2.1)).trans h.2.2.2.1, h.2.2.2.2.trans (hb.mono h.2.2.2.2.size)⟩
    clear c0 c1 c2 c3
    obtain ⟨x1, hx1⟩ : ∃ x1, l + r = x1 := ⟨_, rfl⟩
    obtain ⟨y1, hy1⟩ : ∃ y1, r - l = y1 := ⟨_, rfl⟩
    rw [hx1, hy1] at hME CM
    clear hx1 hy1
    by_cases hxa : x1 = a
    · by_cases hyb : y1 = b
      · obtain rfl := hxa.symm
        obtain rfl := hyb.symm
        have HME2 : Hid (matE (a, b) = if b < 0 then 9 else if fromB (-1000000) 1000000 [l, r] = true then 0 else 23) := by show _ = _; rw [hME.out, if_pos ⟨rfl, rfl⟩]
        clear hME
        go_wp2_with fail
        refine wp_region_held_drew (S := (fun w' : World => w'.cell? ⟨w1.heap.size, 0, none⟩ = some (.int .i64 l) ∧ w'.cell? ⟨w1.heap.size, 1, none⟩ = some (.int .i64 r) ∧ w'.cell? ⟨w.heap.size, 0, none⟩ = some (.int .i64 a) ∧ w'.cell? ⟨w.heap.size, 1, none⟩ = some (.int .i64 b) ∧ Below w2.heap.size w2 w')) (by kernel_rfl) ?_ ?_
        · first | (with_reducible assumption) | exact HS0.out | exact HSB.out _ _ hHeldOld hbc
        intro hHeld
        refine wpAnyH_take (i := 0) (v := ?_) rfl (by kernel_rfl) (by kernel_rfl) (by kernel_rfl) (fun _ _ _ h => h) (Or.inl ⟨by rfl, ?_⟩) (by assumption) ?_
        rotate_left
        · intro w hSw; (try dsimp only at hSw); go_simp; (try (with_reducible rfl))
        try simp only [List.getElem_toArray, List.getElem_cons_succ, List.getElem_cons_zero, Act.put, List.setIfInBounds_toArray, List.set_cons_zero, List.set_cons_succ]
        refine wpAnyH_take (i := 2) (v := ?_) rfl (by kernel_rfl) (by kernel_rfl) (by kernel_rfl) (fun _ _ _ h => h) (Or.inl ⟨by rfl, ?_⟩) (by assumption) ?_
        rotate_left
        · intro w hSw; (try dsimp only at hSw); go_simp; (try (with_reducible rfl))
        try simp only [List.getElem_toArray, List.getElem_cons_succ, List.getElem_cons_zero, Act.put, List.setIfInBounds_toArray, List.set_cons_zero, List.set_cons_succ]
        refine wpAnyH_ready (rs := [1]) (by kernel_rfl) (by simp) ?_
        refine AllReadyH.cons rfl (fun K hK => ?_) AllReadyH.nil
        go_simp
        have hHeldOld := hHeld; go_at_call 18; refine (CM.out _).mono ?_; rintro e w3 ⟨rfl, hbc⟩
        go_wp2_with fail
        refine hK.out _ _ ?_ (fun hHeld => ?_)
        · clear hK K; first | (with_reducible assumption) | exact HS0.out | exact HSB.out _ _ hHeldOld hbc
        clear hK K
        try simp only [List.getElem_toArray, List.getElem_cons_succ, List.getElem_cons_zero, Act.put, List.setIfInBounds_toArray, List.set_cons_zero, List.set_cons_succ]
        refine wpAnyH_take (i := 3) (v := ?_) rfl (by kernel_rfl) (by kernel_rfl) (by kernel_rfl) (fun _ _ _ h => h) (Or.inl ⟨by rfl, ?_⟩) (by assumption) ?_
        rotate_left
        · intro w hSw; (try dsimp only at hSw); go_simp; (try (with_reducible rfl))
        try simp only [List.getElem_toArray, List.getElem_cons_succ, List.getElem_cons_zero, Act.put, List.setIfInBounds_toArray, List.set_cons_zero, List.set_cons_succ]
        refine wpAnyH_take (i := 4) (v := ?_) rfl (by kernel_rfl) (by kernel_rfl) (by kernel_rfl) (fun _ _ _ h => h) (Or.inl ⟨by rfl, ?_⟩) (by assumption) ?_
        rotate_left
        · intro w hSw; (try dsimp only at hSw); go_simp; (try (with_reducible rfl))
        try simp only [List.getElem_toArray, List.getElem_cons_succ, List.getElem_cons_zero, Act.put, List.setIfInBounds_toArray, List.set_cons_zero, List.set_cons_succ]
        refine wpAnyH_done (by kernel_rfl) ?_ _
        clear HS0 HSB
        have HBF := Lib.hid (B2.out.trans (hHeld.2.2.2.2.mono B2.out.size))
        have d0 := hHeld.1
        have d1 := hHeld.2.1
        have d3 := hHeld.2.2.2.1
        clear hHeld
        try clear hHeldOld
        try clear hHeld
        try clear hbc
        by_cases hb0 : b < 0
        · have hbd : decide (b < 0) = true := decide_eq_true hb0
          go_wp2
          go_ret
          exact ⟨by rw [HME2.out, if_pos hb0]; rfl, HBF.out⟩
        · have hbd : decide (b < 0) = false := decide_eq_false hb0
          have CA := Lib.hid (areAtMost_any (some ⟨w3.heap.size, 0, none⟩) 2 2 [l, r] 1000000 (w3.alloc (.cells #[.int .i64 l, .int .i64 r] 3)) (lit2 _ _ _ _ (by simp [go_sem]) (by simp [go_sem])) (by omega) (by omega))
          rw [show (-(1000000 : Int)) = -1000000 from rfl] at CA
          obtain ⟨t, ht⟩ : ∃ t, fromB (-1000000) 1000000 [l, r] = t := ⟨_, rfl⟩
          have HME3 : Hid (matE (a, b) = if t = true then 0 else 23) := by show _ = _; rw [HME2.out, if_neg hb0, ht]
          rw [ht] at CA
          clear ht
          have HBG : Hid (Below w.heap.size w (w3.alloc (.cells #[.int .i64 l, .int .i64 r] 3))) := HBF.out.alloc HBF.out.size _
          cases t
          all_goals
            go_wp2_with fail
            refine CA.out.mono ?_
            rintro e w' ⟨rfl, rfl⟩
            go_wp2
            go_ret
            exact ⟨by rw [HME3.out]; rfl, HBG.out⟩
      · have hyb' : (y1 == b) = false := by rw [beq_eq_false_iff_ne]; exact hyb
        obtain rfl := hxa.symm
        have HME2 : Hid (matE (a, b) = 3) := by show _ = _; rw [hME.out, if_neg (fun h => hyb h.2)]
        clear hME hyb
        go_wp2_with fail
        refine wp_region_held_drew (S := (fun w' : World => w'.cell? ⟨w1.heap.size, 0, none⟩ = some (.int .i64 l) ∧ w'.cell? ⟨w1.heap.size, 1, none⟩ = some (.int .i64 r) ∧ w'.cell? ⟨w.heap.size, 0, none⟩ = some (.int .i64 a) ∧ w'.cell? ⟨w.heap.size, 1, none⟩ = some (.int .i64 b) ∧ Below w2.heap.size w2 w')) (by kernel_rfl) ?_ ?_
        · first | (with_reducible assumption) | exact HS0.out | exact HSB.out _ _ hHeldOld hbc
        intro hHeld
        refine wpAnyH_take (i := 0) (v := ?_) rfl (by kernel_rfl) (by kernel_rfl) (by kernel_rfl) (fun _ _ _ h => h) (Or.inl ⟨by rfl, ?_⟩) (by assumption) ?_
        rotate_left
        · intro w hSw; (try dsimp only at hSw); go_simp; (try (with_reducible rfl))
        try simp only [List.getElem_toArray, List.getElem_cons_succ, List.getElem_cons_zero, Act.put, List.setIfInBounds_toArray, List.set_cons_zero, List.set_cons_succ]
        refine wpAnyH_take (i := 2) (v := ?_) rfl (by kernel_rfl) (by kernel_rfl) (by kernel_rfl) (fun _ _ _ h => h) (Or.inl ⟨by rfl, ?_⟩) (by assumption) ?_
        rotate_left
        · intro w hSw; (try dsimp only at hSw); go_simp; (try (with_reducible rfl))
        try simp only [List.getElem_toArray, List.getElem_cons_succ, List.getElem_cons_zero, Act.put, List.setIfInBounds_toArray, List.set_cons_zero, List.set_cons_succ]
        refine wpAnyH_ready (rs := [1]) (by kernel_rfl) (by simp) ?_
        refine AllReadyH.cons rfl (fun K hK => ?_) AllReadyH.nil
        go_simp
        have hHeldOld := hHeld; go_at_call 18; refine (CM.out _).mono ?_; rintro e w3 ⟨rfl, hbc⟩
        go_wp2_with fail
        refine hK.out _ _ ?_ (fun hHeld => ?_)
        · clear hK K; first | (with_reducible assumption) | exact HS0.out | exact HSB.out _ _ hHeldOld hbc
        clear hK K
        try simp only [List.getElem_toArray, List.getElem_cons_succ, List.getElem_cons_zero, Act.put, List.setIfInBounds_toArray, List.set_cons_zero, List.set_cons_succ]
        refine wpAnyH_take (i := 3) (v := ?_) rfl (by kernel_rfl) (by kernel_rfl) (by kernel_rfl) (fun _ _ _ h => h) (Or.inl ⟨by rfl, ?_⟩) (by assumption) ?_
        rotate_left
        · intro w hSw; (try dsimp only at hSw); go_simp; (try (with_reducible rfl))
        try simp only [List.getElem_toArray, List.getElem_cons_succ, List.getElem_cons_zero, Act.put, List.setIfInBounds_toArray, List.set_cons_zero, List.set_cons_succ]
        refine wpAnyH_take (i := 4) (v := ?_) rfl (by kernel_rfl) (by kernel_rfl) (by kernel_rfl) (fun _ _ _ h => h) (Or.inl ⟨by rfl, ?_⟩) (by assumption) ?_
        rotate_left
        · intro w hSw; (try dsimp only at hSw); go_simp; (try (with_reducible rfl))
        try simp only [List.getElem_toArray, List.getElem_cons_succ, List.getElem_cons_zero, Act.put, List.setIfInBounds_toArray, List.set_cons_zero, List.set_cons_succ]
        refine wpAnyH_done (by kernel_rfl) ?_ _
        have HBF := Lib.hid (B2.out.trans (hHeld.2.2.2.2.mono B2.out.size))
        clear HS0 HSB hHeld
        go_wp2
        go_ret
        exact ⟨by rw [HME2.out]; rfl, HBF.out⟩
    · have hxa' : (x1 == a) = false := by rw [beq_eq_false_iff_ne]; exact hxa
      have HME2 : Hid (matE (a, b) = 3) := by show _ = _; rw [hME.out, if_neg (fun h => hxa h.1)]
      clear hME hxa
      go_wp2_with fail
      refine wp_region_held_drew (S := (fun w' : World => w'.cell? ⟨w1.heap.size, 0, none⟩ = some (.int .i64 l) ∧ w'.cell? ⟨w1.heap.size, 1, none⟩ = some (.int .i64 r) ∧ w'.cell? ⟨w.heap.size, 0, none⟩ = some (.int .i64 a) ∧ w'.cell? ⟨w.heap.size, 1, none⟩ = some (.int .i64 b) ∧ Below w2.heap.size w2 w')) (by kernel_rfl) ?_ ?_
      · first | (with_reducible assumption) | exact HS0.out | exact HSB.out _ _ hHeldOld hbc
      intro hHeld
      refine wpAnyH_take (i := 0) (v := ?_) rfl (by kernel_rfl) (by kernel_rfl) (by kernel_rfl) (fun _ _ _ h => h) (Or.inl ⟨by rfl, ?_⟩) (by assumption) ?_
      rotate_left
      · intro w hSw; (try dsimp only at hSw); go_simp; (try (with_reducible rfl))
      try simp only [List.getElem_toArray, List.getElem_cons_succ, List.getElem_cons_zero, Act.put, List.setIfInBounds_toArray, List.set_cons_zero, List.set_cons_succ]
      refine wpAnyH_take (i := 2) (v := ?_) rfl (by kernel_rfl) (by kernel_rfl) (by kernel_rfl) (fun _ _ _ h => h) (Or.inl ⟨by rfl, ?_⟩) (by assumption) ?_
      rotate_left
      · intro w hSw; (try dsimp only at hSw); go_simp; (try (with_reducible rfl))
      try simp only [List.getElem_toArray, List.getElem_cons_succ, List.getElem_cons_zero, Act.put, List.setIfInBounds_toArray, List.set_cons_zero, List.set_cons_succ]
      refine wpAnyH_ready (rs := [1]) (by kernel_rfl) (by simp) ?_
      refine AllReadyH.cons rfl (fun K hK => ?_) AllReadyH.nil
      go_simp
      have hHeldOld := hHeld; go_at_call 18; refine (CM.out _).mono ?_; rintro e w3 ⟨rfl, hbc⟩
      go_wp2_with fail
      refine hK.out _ _ ?_ (fun hHeld => ?_)
      · clear hK K; first | (with_reducible assumption) | exact HS0.out | exact HSB.out _ _ hHeldOld hbc
      clear hK K
      try simp only [List.getElem_toArray, List.getElem_cons_succ, List.getElem_cons_zero, Act.put, List.setIfInBounds_toArray, List.set_cons_zero, List.set_cons_succ]
      refine wpAnyH_take (i := 3) (v := ?_) rfl (by kernel_rfl) (by kernel_rfl) (by kernel_rfl) (fun _ _ _ h => h) (Or.inl ⟨by rfl, ?_⟩) (by assumption) ?_
      rotate_left
      · intro w hSw; (try dsimp only at hSw); go_simp; (try (with_reducible rfl))
      try simp only [List.getElem_toArray, List.getElem_cons_succ, List.getElem_cons_zero, Act.put, List.setIfInBounds_toArray, List.set_cons_zero, List.set_cons_succ]
      refine wpAnyH_take (i := 4) (v := ?_) rfl (by kernel_rfl) (by kernel_rfl) (by kernel_rfl) (fun _ _ _ h => h) (Or.inl ⟨by rfl, ?_⟩) (by assumption) ?_
      rotate_left
      · intro w hSw; (try dsimp only at hSw); go_simp; (try (with_reducible rfl))
      try simp only [List.getElem_toArray, List.getElem_cons_succ, List.getElem_cons_zero, Act.put, List.setIfInBounds_toArray, List.set_cons_zero, List.set_cons_succ]
      refine wpAnyH_done (by kernel_rfl) ?_ _
      have HBF := Lib.hid (B2.out.trans (hHeld.2.2.2.2.mono B2.out.size))
      clear HS0 HSB hHeld
      go_wp2
      go_ret
      exact ⟨by rw [HME2.out]; rfl, HBF.out⟩
  · have hfF : fromB (-2000000) 2000000 [a, b] = false := by cases h : fromB (-2000000) 2000000 [a, b] with | false => rfl | true => exact absurd h hf
    have HME : Hid (matE (a, b) = 2) := by show _ = _; unfold matE; rw [if_neg hf]
    clear hf
    obtain ⟨l, r, CW⟩ : ∃ l r : Int, Hid (Calls Try.prog 26 #[.agg #[.int .i64 a, .int .i64 b]] W0 fun e w' => e = .returned (.agg #[.int .i64 l, .int .i64 r]) ∧ Below W0.heap.size W0 w') := ⟨_, _, Lib.hid (wallsOf_run a b _ _ _ _ W0 rfl rfl rfl rfl)⟩
    go_enter Try.func25, Try.ntmps25
    go_wp2_with fail
    rw [HW0.out]
    refine CW.out.mono ?_
    rintro e w1 ⟨rfl, hb1⟩
    have B1 := Lib.hid (B0.out.trans (hb1.mono B0.out.size))
    have K1 := Lib.hid (K0.out.later hb1)
    clear hb1 CW HW0
    have a0 : (w1.alloc (.cells #[.int .i64 l, .int .i64 r] 36)).cell? ⟨w.heap.size, 0, none⟩ = some (.int .i64 a) := cellA _ (by rw [K1.out.cell]; rfl)
    have a1 : (w1.alloc (.cells #[.int .i64 l, .int .i64 r] 36)).cell? ⟨w.heap.size, 1, none⟩ = some (.int .i64 b) := cellA _ (by rw [K1.out.cell]; rfl)
    have CA := Lib.hid (areAtMost_any (some ⟨(w1.alloc (.cells #[.int .i64 l, .int .i64 r] 36)).heap.size, 0, none⟩) 2 2 [a, b] 2000000 ((w1.alloc (.cells #[.int .i64 l, .int .i64 r] 36)).alloc (.cells #[.int .i64 a, .int .i64 b] 3)) (lit2 _ _ _ _ (by simp [go_sem]) (by simp [go_sem])) (by omega) (by omega))
    rw [show (-(2000000 : Int)) = -2000000 from rfl, hfF, World.size_alloc] at CA
    have HBG : Hid (Below w.heap.size w ((w1.alloc (.cells #[.int .i64 l, .int .i64 r] 36)).alloc (.cells #[.int .i64 a, .int .i64 b] 3))) := (B1.out.alloc B1.out.size _).alloc (by have := B1.out.size; simp; omega) _
    go_wp2_with fail
    refine CA.out.mono ?_
    rintro e w' ⟨rfl, rfl⟩
    clear CA a0 a1
    go_wp2
    go_ret
    exact ⟨by rw [HME.out]; rfl, HBG.out⟩

end Go.Proofs.Ytnmfeonagigkeaa
