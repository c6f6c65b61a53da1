import Derived.Test.YtjjflbnopphciaaGreatDoorXF
namespace Go.Proofs.YtjjflbnopphciaaGreatDoor
open Go.RowKit

end Go.Proofs.YtjjflbnopphciaaGreatDoor

namespace Go.Proofs.YtjjflbnopphciaaGreatDoor
open Go.RowKit

def widP (p : Int × Int) : Int := p.2 - p.1
def widL (ws : List (Int × Int)) : List Int := if wallsE ws = 0 then ws.map widP else []
theorem matField (a b : Int) (W : World) : (Instr.field 86 (.agg #[.int .i64 a, .int .i64 b]) 1).run Tryz.prog W = .ok (.int .i64 b) W := by kernel_rfl
end Go.Proofs.YtjjflbnopphciaaGreatDoor

namespace Go.Proofs.YtjjflbnopphciaaGreatDoor
open Go.RowKit

set_option maxRecDepth 100000 in
theorem wallsOf_run (a b x y l r : Int) (w : World) (h1 : IntKind.i64.wrap (a - b) = x) (h2 : IntKind.i64.wrap (a + b) = y) (h3 : IntKind.i64.wrap (x.tdiv 2) = l) (h4 : IntKind.i64.wrap (y.tdiv 2) = r) :
    Calls Tryz.prog 74 #[.agg #[.int .i64 a, .int .i64 b]] w fun e w' => e = .returned (.agg #[.int .i64 l, .int .i64 r]) ∧ Below w.heap.size w w' := by
  go_enter Tryz.func74, Tryz.ntmps74
  go_wp2
  refine bodyPost_ret (v := .agg #[.int .i64 l, .int .i64 r]) (by simp [results, Tryz.results74, go_sem]) rfl ⟨rfl, ?_⟩
  exact ((Below.refl _ w).alloc (Nat.le_refl _) _).alloc (by simp) _

theorem half {x q : Int} (h : x.tdiv 2 = q) : ∃ m : Int, 2 * q + m = x ∧ -1 ≤ m ∧ m ≤ 1 := by
  refine ⟨x.tmod 2, ?_, ?_, ?_⟩
  · rw [← h]; exact Int.mul_tdiv_add_tmod x 2
  · have := Int.lt_tmod_of_pos x (show (0 : Int) < 2 by omega); omega
  · have := Int.tmod_lt_of_pos x (show (0 : Int) < 2 by omega); omega
theorem from_pair {lo hi a b : Int} (h : fromB lo hi [a, b] = true) : lo ≤ a ∧ a ≤ hi ∧ lo ≤ b ∧ b ≤ hi := by simp [fromB] at h; omega
/-- The error of a matrix, and its walls. -/
def matE (p : Int × Int) : Int := if fromB (-2000000) 2000000 [p.1, p.2] = true then (if p.1 % 2 = p.2 % 2 then (if p.2 < 0 then 9 else if fromB (-1000000) 1000000 [(p.1 - p.2) / 2, (p.1 + p.2) / 2] = true then 0 else 23) else 3) else 2
def wlsP (p : Int × Int) : Int × Int := ((p.1 - p.2) / 2, (p.1 + p.2) / 2)

set_option maxRecDepth 100000 in
set_option maxHeartbeats 4000000 in
theorem checkMatrix_any (a b : Int) (w : World) :
    Calls Tryz.prog 73 #[.agg #[.int .i64 a, .int .i64 b]] w fun e w' => e = .returned (.int .i64 (matE (a, b))) ∧ Below w.heap.size w w' := by
  have b0 := (Below.refl w.heap.size w).alloc (Nat.le_refl _) (.cells #[.int .i64 a, .int .i64 b] 86)
  have k0 := Bk.new w 86 #[.int .i64 a, .int .i64 b]
  obtain ⟨W0, hW0⟩ : ∃ W0, w.alloc (.cells #[.int .i64 a, .int .i64 b] 86) = W0 := ⟨_, rfl⟩
  rw [hW0] at b0 k0
  have B0 := Lib.hid b0
  have K0 := Lib.hid k0
  have HW0 := Lib.hid hW0
  clear b0 k0 hW0
  by_cases hf : fromB (-2000000) 2000000 [a, b] = true
  · obtain ⟨l, r, hl, hr⟩ : ∃ l r, (a - b).tdiv 2 = l ∧ (a + b).tdiv 2 = r := ⟨_, _, rfl, rfl⟩
    have hfd := from_pair hf
    obtain ⟨m1, h11, h12⟩ := half hl
    obtain ⟨m2, h21, h22⟩ := half hr
    have hME : Hid (matE (a, b) = if l + r = a ∧ r - l = b then (if b < 0 then 9 else if fromB (-1000000) 1000000 [l, r] = true then 0 else 23) else 3) := by
      show _ = _
      unfold matE
      rw [if_pos hf]
      dsimp only
      by_cases hp : a % 2 = b % 2
      · have e1 : l + r = a ∧ r - l = b := by omega
        rw [if_pos hp, if_pos e1, show (a - b) / 2 = l by omega, show (a + b) / 2 = r by omega]
      · have e1 : ¬ (l + r = a ∧ r - l = b) := by omega
        rw [if_neg hp, if_neg e1]
    have CW := Lib.hid (wallsOf_run a b (a - b) (a + b) l r W0 (IntWalk.i64_in _ (by omega)) (IntWalk.i64_in _ (by omega)) (by rw [hl]; exact IntWalk.i64_in _ (by omega)) (by rw [hr]; exact IntWalk.i64_in _ (by omega)))
    have CM : Hid (∀ W, Calls Tryz.prog 64 #[.agg #[.int .i64 l, .int .i64 r]] W fun e w' => e = .returned (.agg #[.int .i64 (l + r), .int .i64 (r - l)]) ∧ Below W.heap.size W w') := fun W => matrixOf_any l r W (by omega) (by omega)
    clear hl hr h11 h12 h21 h22
    go_enter Tryz.func73, Tryz.ntmps73
    go_wp2_with fail
    rw [HW0.out]
    refine CW.out.mono ?_
    rintro e w1 ⟨rfl, hb1⟩
    have B1 := Lib.hid (B0.out.trans (hb1.mono B0.out.size))
    have K1 := Lib.hid (K0.out.later hb1)
    clear hb1 CW HW0
    have a0 : (w1.alloc (.cells #[.int .i64 l, .int .i64 r] 83)).cell? ⟨w.heap.size, 0, none⟩ = some (.int .i64 a) := cellA _ (by rw [K1.out.cell]; rfl)
    have a1 : (w1.alloc (.cells #[.int .i64 l, .int .i64 r] 83)).cell? ⟨w.heap.size, 1, none⟩ = some (.int .i64 b) := cellA _ (by rw [K1.out.cell]; rfl)
    have CA := Lib.hid (areAtMost_any (some ⟨(w1.alloc (.cells #[.int .i64 l, .int .i64 r] 83)).heap.size, 0, none⟩) 2 2 [a, b] 2000000 ((w1.alloc (.cells #[.int .i64 l, .int .i64 r] 83)).alloc (.cells #[.int .i64 a, .int .i64 b] 3)) (lit2 _ _ _ _ (by simp [go_sem]) (by simp [go_sem])) (by omega) (by omega))
    rw [show (-(2000000 : Int)) = -2000000 from rfl, hf, World.size_alloc] at CA
    go_wp2_with fail
    refine CA.out.mono ?_
    rintro e w' ⟨rfl, rfl⟩
    clear CA a0 a1 hf
    obtain ⟨w2, hw2⟩ : ∃ W2, ((w1.alloc (.cells #[.int .i64 l, .int .i64 r] 83)).alloc (.cells #[.int .i64 a, .int .i64 b] 3)) = W2 := ⟨_, rfl⟩
    have c0 : w2.cell? ⟨w1.heap.size, 0, none⟩ = some (.int .i64 l) := by rw [← hw2]; exact cellA _ (by simp [go_sem])
    have c1 : w2.cell? ⟨w1.heap.size, 1, none⟩ = some (.int .i64 r) := by rw [← hw2]; exact cellA _ (by simp [go_sem])
    have c2 : w2.cell? ⟨w.heap.size, 0, none⟩ = some (.int .i64 a) := by rw [← hw2]; exact cellA _ (cellA _ (by rw [K1.out.cell]; rfl))
    have c3 : w2.cell? ⟨w.heap.size, 1, none⟩ = some (.int .i64 b) := by rw [← hw2]; exact cellA _ (cellA _ (by rw [K1.out.cell]; rfl))
    have hb2 : Below w.heap.size w w2 := by rw [← hw2]; exact (B1.out.alloc B1.out.size _).alloc (by have := B1.out.size; simp; omega) _
    have B2 := Lib.hid hb2
    rw [hw2]
    clear hw2 K1 K0 B0 B1 hb2
    have HS0 : Hid ((fun w' : World => w'.cell? ⟨w1.heap.size, 0, none⟩ = some (.int .i64 l) ∧ w'.cell? ⟨w1.heap.size, 1, none⟩ = some (.int .i64 r) ∧ w'.cell? ⟨w.heap.size, 0, none⟩ = some (.int .i64 a) ∧ w'.cell? ⟨w.heap.size, 1, none⟩ = some (.int .i64 b) ∧ Below w2.heap.size w2 w') w2.drew) := ⟨c0, c1, c2, c3, (Below.refl _ _).drew⟩
    have HSB : Hid (∀ (V V' : World), (fun w' : World => w'.cell? ⟨w1.heap.size, 0, none⟩ = some (.int .i64 l) ∧ w'.cell? ⟨w1.heap.size, 1, none⟩ = some (.int .i64 r) ∧ w'.cell? ⟨w.heap.size, 0, none⟩ = some (.int .i64 a) ∧ w'.cell? ⟨w.heap.size, 1, none⟩ = some (.int .i64 b) ∧ Below w2.heap.size w2 w') V → Below V.heap.size V V' → (fun w' : World => w'.cell? ⟨w1.heap.size, 0, none⟩ = some (.int .i64 l) ∧ w'.cell? ⟨w1.heap.size, 1, none⟩ = some (.int .i64 r) ∧ w'.cell? ⟨w.heap.size, 0, none⟩ = some (.int .i64 a) ∧ w'.cell? ⟨w.heap.size, 1, none⟩ = some (.int .i64 b) ∧ Below w2.heap.size w2 w') V') := fun V V' h hb => ⟨(hb.cell (World.block_lt_of_cell? _ _ h.1)).trans h.1, (hb.cell (World.block_lt_of_cell? _ _ h.2.1)).trans h.2.1, (hb.cell (World.block_lt_of_cell? _ _ h.2.2.1)).trans h.2.2.1, (hb.cell (World.block_lt_of_cell? _ _ h.2.2.2.1)).trans h.2.2.2.1, h.2.2.2.2.trans (hb.mono h.2.2.2.2.size)⟩
    clear c0 c1 c2 c3
    obtain ⟨x1, hx1⟩ : ∃ x1, l + r = x1 := ⟨_, rfl⟩
    obtain ⟨y1, hy1⟩ : ∃ y1, r - l = y1 := ⟨_, rfl⟩
    rw [hx1, hy1] at hME CM
    clear hx1 hy1
    by_cases hxa : x1 = a
    · by_cases hyb : y1 = b
      · obtain rfl := hxa.symm
        obtain rfl := hyb.symm
        have HME2 : Hid (matE (a, b) = if b < 0 then 9 else if fromB (-1000000) 1000000 [l, r] = true then 0 else 23) := by show _ = _; rw [hME.out, if_pos ⟨rfl, rfl⟩]
        clear hME
        go_wp2_with fail
        refine wp_region_held_drew (S := (fun w' : World => w'.cell? ⟨w1.heap.size, 0, none⟩ = some (.int .i64 l) ∧ w'.cell? ⟨w1.heap.size, 1, none⟩ = some (.int .i64 r) ∧ w'.cell? ⟨w.heap.size, 0, none⟩ = some (.int .i64 a) ∧ w'.cell? ⟨w.heap.size, 1, none⟩ = some (.int .i64 b) ∧ Below w2.heap.size w2 w')) (by kernel_rfl) ?_ ?_
        · first | (with_reducible assumption) | exact HS0.out | exact HSB.out _ _ hHeldOld hbc
        intro hHeld
        refine wpAnyH_take (i := 0) (v := ?_) rfl (by kernel_rfl) (by kernel_rfl) (by kernel_rfl) (fun _ _ _ h => h) (Or.inl ⟨by rfl, ?_⟩) (by assumption) ?_
        rotate_left
        · intro w hSw; (try dsimp only at hSw); go_simp; (try (with_reducible rfl))
        try simp only [List.getElem_toArray, List.getElem_cons_succ, List.getElem_cons_zero, Act.put, List.setIfInBounds_toArray, List.set_cons_zero, List.set_cons_succ]
        refine wpAnyH_take (i := 2) (v := ?_) rfl (by kernel_rfl) (by kernel_rfl) (by kernel_rfl) (fun _ _ _ h => h) (Or.inl ⟨by rfl, ?_⟩) (by assumption) ?_
        rotate_left
        · intro w hSw; (try dsimp only at hSw); go_simp; (try (with_reducible rfl))
        try simp only [List.getElem_toArray, List.getElem_cons_succ, List.getElem_cons_zero, Act.put, List.setIfInBounds_toArray, List.set_cons_zero, List.set_cons_succ]
        refine wpAnyH_ready (rs := [1]) (by kernel_rfl) (by simp) ?_
        refine AllReadyH.cons rfl (fun K hK => ?_) AllReadyH.nil
        go_simp
        have hHeldOld := hHeld; go_at_call 64; refine (CM.out _).mono ?_; rintro e w3 ⟨rfl, hbc⟩
        go_wp2_with fail
        refine hK.out _ _ ?_ (fun hHeld => ?_)
        · clear hK K; first | (with_reducible assumption) | exact HS0.out | exact HSB.out _ _ hHeldOld hbc
        clear hK K
        try simp only [List.getElem_toArray, List.getElem_cons_succ, List.getElem_cons_zero, Act.put, List.setIfInBounds_toArray, List.set_cons_zero, List.set_cons_succ]
        refine wpAnyH_take (i := 3) (v := ?_) rfl (by kernel_rfl) (by kernel_rfl) (by kernel_rfl) (fun _ _ _ h => h) (Or.inl ⟨by rfl, ?_⟩) (by assumption) ?_
        rotate_left
        · intro w hSw; (try dsimp only at hSw); go_simp; (try (with_reducible rfl))
        try simp only [List.getElem_toArray, List.getElem_cons_succ, List.getElem_cons_zero, Act.put, List.setIfInBounds_toArray, List.set_cons_zero, List.set_cons_succ]
        refine wpAnyH_take (i := 4) (v := ?_) rfl (by kernel_rfl) (by kernel_rfl) (by kernel_rfl) (fun _ _ _ h => h) (Or.inl ⟨by rfl, ?_⟩) (by assumption) ?_
        rotate_left
        · intro w hSw; (try dsimp only at hSw); go_simp; (try (with_reducible rfl))
        try simp only [List.getElem_toArray, List.getElem_cons_succ, List.getElem_cons_zero, Act.put, List.setIfInBounds_toArray, List.set_cons_zero, List.set_cons_succ]
        refine wpAnyH_done (by kernel_rfl) ?_ _
        clear HS0 HSB
        have HBF := Lib.hid (B2.out.trans (hHeld.2.2.2.2.mono B2.out.size))
        have d0 := hHeld.1
        have d1 := hHeld.2.1
        have d3 := hHeld.2.2.2.1
        clear hHeld
        try clear hHeldOld
        try clear hHeld
        try clear hbc
        by_cases hb0 : b < 0
        · have hbd : decide (b < 0) = true := decide_eq_true hb0
          go_wp2
          go_ret
          exact ⟨by rw [HME2.out, if_pos hb0]; rfl, HBF.out⟩
        · have hbd : decide (b < 0) = false := decide_eq_false hb0
          have CA := Lib.hid (areAtMost_any (some ⟨w3.heap.size, 0, none⟩) 2 2 [l, r] 1000000 (w3.alloc (.cells #[.int .i64 l, .int .i64 r] 3)) (lit2 _ _ _ _ (by simp [go_sem]) (by simp [go_sem])) (by omega) (by omega))
          rw [show (-(1000000 : Int)) = -1000000 from rfl] at CA
          obtain ⟨t, ht⟩ : ∃ t, fromB (-1000000) 1000000 [l, r] = t := ⟨_, rfl⟩
          have HME3 : Hid (matE (a, b) = if t = true then 0 else 23) := by show _ = _; rw [HME2.out, if_neg hb0, ht]
          rw [ht] at CA
          clear ht
          have HBG : Hid (Below w.heap.size w (w3.alloc (.cells #[.int .i64 l, .int .i64 r] 3))) := HBF.out.alloc HBF.out.size _
          cases t
          all_goals
            go_wp2_with fail
            refine CA.out.mono ?_
            rintro e w' ⟨rfl, rfl⟩
            go_wp2
            go_ret
            exact ⟨by rw [HME3.out]; rfl, HBG.out⟩
      · have hyb' : (y1 == b) = false := by rw [beq_eq_false_iff_ne]; exact hyb
        obtain rfl := hxa.symm
        have HME2 : Hid (matE (a, b) = 3) := by show _ = _; rw [hME.out, if_neg (fun h => hyb h.2)]
        clear hME hyb
        go_wp2_with fail
        refine wp_region_held_drew (S := (fun w' : World => w'.cell? ⟨w1.heap.size, 0, none⟩ = some (.int .i64 l) ∧ w'.cell? ⟨w1.heap.size, 1, none⟩ = some (.int .i64 r) ∧ w'.cell? ⟨w.heap.size, 0, none⟩ = some (.int .i64 a) ∧ w'.cell? ⟨w.heap.size, 1, none⟩ = some (.int .i64 b) ∧ Below w2.heap.size w2 w')) (by kernel_rfl) ?_ ?_
        · first | (with_reducible assumption) | exact HS0.out | exact HSB.out _ _ hHeldOld hbc
        intro hHeld
        refine wpAnyH_take (i := 0) (v := ?_) rfl (by kernel_rfl) (by kernel_rfl) (by kernel_rfl) (fun _ _ _ h => h) (Or.inl ⟨by rfl, ?_⟩) (by assumption) ?_
        rotate_left
        · intro w hSw; (try dsimp only at hSw); go_simp; (try (with_reducible rfl))
        try simp only [List.getElem_toArray, List.getElem_cons_succ, List.getElem_cons_zero, Act.put, List.setIfInBounds_toArray, List.set_cons_zero, List.set_cons_succ]
        refine wpAnyH_take (i := 2) (v := ?_) rfl (by kernel_rfl) (by kernel_rfl) (by kernel_rfl) (fun _ _ _ h => h) (Or.inl ⟨by rfl, ?_⟩) (by assumption) ?_
        rotate_left
        · intro w hSw; (try dsimp only at hSw); go_simp; (try (with_reducible rfl))
        try simp only [List.getElem_toArray, List.getElem_cons_succ, List.getElem_cons_zero, Act.put, List.setIfInBounds_toArray, List.set_cons_zero, List.set_cons_succ]
        refine wpAnyH_ready (rs := [1]) (by kernel_rfl) (by simp) ?_
        refine AllReadyH.cons rfl (fun K hK => ?_) AllReadyH.nil
        go_simp
        have hHeldOld := hHeld; go_at_call 64; refine (CM.out _).mono ?_; rintro e w3 ⟨rfl, hbc⟩
        go_wp2_with fail
        refine hK.out _ _ ?_ (fun hHeld => ?_)
        · clear hK K; first | (with_reducible assumption) | exact HS0.out | exact HSB.out _ _ hHeldOld hbc
        clear hK K
        try simp only [List.getElem_toArray, List.getElem_cons_succ, List.getElem_cons_zero, Act.put, List.setIfInBounds_toArray, List.set_cons_zero, List.set_cons_succ]
        refine wpAnyH_take (i := 3) (v := ?_) rfl (by kernel_rfl) (by kernel_rfl) (by kernel_rfl) (fun _ _ _ h => h) (Or.inl ⟨by rfl, ?_⟩) (by assumption) ?_
        rotate_left
        · intro w hSw; (try dsimp only at hSw); go_simp; (try (with_reducible rfl))
        try simp only [List.getElem_toArray, List.getElem_cons_succ, List.getElem_cons_zero, Act.put, List.setIfInBounds_toArray, List.set_cons_zero, List.set_cons_succ]
        refine wpAnyH_take (i := 4) (v := ?_) rfl (by kernel_rfl) (by kernel_rfl) (by kernel_rfl) (fun _ _ _ h => h) (Or.inl ⟨by rfl, ?_⟩) (by assumption) ?_
        rotate_left
        · intro w hSw; (try dsimp only at hSw); go_simp; (try (with_reducible rfl))
        try simp only [List.getElem_toArray, List.getElem_cons_succ, List.getElem_cons_zero, Act.put, List.setIfInBounds_toArray, List.set_cons_zero, List.set_cons_succ]
        refine wpAnyH_done (by kernel_rfl) ?_ _
        have HBF := Lib.hid (B2.out.trans (hHeld.2.2.2.2.mono B2.out.size))
        clear HS0 HSB hHeld
        go_wp2
        go_ret
        exact ⟨by rw [HME2.out]; rfl, HBF.out⟩
    · have hxa' : (x1 == a) = false := by rw [beq_eq_false_iff_ne]; exact hxa
      have HME2 : Hid (matE (a, b) = 3) := by show _ = _; rw [hME.out, if_neg (fun h => hxa h.1)]
      clear hME hxa
      go_wp2_with fail
      refine wp_region_held_drew (S := (fun w' : World => w'.cell? ⟨w1.heap.size, 0, none⟩ = some (.int .i64 l) ∧ w'.cell? ⟨w1.heap.size, 1, none⟩ = some (.int .i64 r) ∧ w'.cell? ⟨w.heap.size, 0, none⟩ = some (.int .i64 a) ∧ w'.cell? ⟨w.heap.size, 1, none⟩ = some (.int .i64 b) ∧ Below w2.heap.size w2 w')) (by kernel_rfl) ?_ ?_
      · first | (with_reducible assumption) | exact HS0.out | exact HSB.out _ _ hHeldOld hbc
      intro hHeld
      refine wpAnyH_take (i := 0) (v := ?_) rfl (by kernel_rfl) (by kernel_rfl) (by kernel_rfl) (fun _ _ _ h => h) (Or.inl ⟨by rfl, ?_⟩) (by assumption) ?_
      rotate_left
      · intro w hSw; (try dsimp only at hSw); go_simp; (try (with_reducible rfl))
      try simp only [List.getElem_toArray, List.getElem_cons_succ, List.getElem_cons_zero, Act.put, List.setIfInBounds_toArray, List.set_cons_zero, List.set_cons_succ]
      refine wpAnyH_take (i := 2) (v := ?_) rfl (by kernel_rfl) (by kernel_rfl) (by kernel_rfl) (fun _ _ _ h => h) (Or.inl ⟨by rfl, ?_⟩) (by assumption) ?_
      rotate_left
      · intro w hSw; (try dsimp only at hSw); go_simp; (try (with_reducible rfl))
      try simp only [List.getElem_toArray, List.getElem_cons_succ, List.getElem_cons_zero, Act.put, List.setIfInBounds_toArray, List.set_cons_zero, List.set_cons_succ]
      refine wpAnyH_ready (rs := [1]) (by kernel_rfl) (by simp) ?_
      refine AllReadyH.cons rfl (fun K hK => ?_) AllReadyH.nil
      go_simp
      have hHeldOld := hHeld; go_at_call 64; refine (CM.out _).mono ?_; rintro e w3 ⟨rfl, hbc⟩
      go_wp2_with fail
      refine hK.out _ _ ?_ (fun hHeld => ?_)
      · clear hK K; first | (with_reducible assumption) | exact HS0.out | exact HSB.out _ _ hHeldOld hbc
      clear hK K
      try simp only [List.getElem_toArray, List.getElem_cons_succ, List.getElem_cons_zero, Act.put, List.setIfInBounds_toArray, List.set_cons_zero, List.set_cons_succ]
      refine wpAnyH_take (i := 3) (v := ?_) rfl (by kernel_rfl) (by kernel_rfl) (by kernel_rfl) (fun _ _ _ h => h) (Or.inl ⟨by rfl, ?_⟩) (by assumption) ?_
      rotate_left
      · intro w hSw; (try dsimp only at hSw); go_simp; (try (with_reducible rfl))
      try simp only [List.getElem_toArray, List.getElem_cons_succ, List.getElem_cons_zero, Act.put, List.setIfInBounds_toArray, List.set_cons_zero, List.set_cons_succ]
      refine wpAnyH_take (i := 4) (v := ?_) rfl (by kernel_rfl) (by kernel_rfl) (by kernel_rfl) (fun _ _ _ h => h) (Or.inl ⟨by rfl, ?_⟩) (by assumption) ?_
      rotate_left
      · intro w hSw; (try dsimp only at hSw); go_simp; (try (with_reducible rfl))
      try simp only [List.getElem_toArray, List.getElem_cons_succ, List.getElem_cons_zero, Act.put, List.setIfInBounds_toArray, List.set_cons_zero, List.set_cons_succ]
      refine wpAnyH_done (by kernel_rfl) ?_ _
      have HBF := Lib.hid (B2.out.trans (hHeld.2.2.2.2.mono B2.out.size))
      clear HS0 HSB hHeld
      go_wp2
      go_ret
      exact ⟨by rw [HME2.out]; rfl, HBF.out⟩
  · have hfF : fromB (-2000000) 2000000 [a, b] = false := by cases h : fromB (-2000000) 2000000 [a, b] with | false => rfl | true => exact absurd h hf
    have HME : Hid (matE (a, b) = 2) := by show _ = _; unfold matE; rw [if_neg hf]
    clear hf
    obtain ⟨l, r, CW⟩ : ∃ l r : Int, Hid (Calls Tryz.prog 74 #[.agg #[.int .i64 a, .int .i64 b]] W0 fun e w' => e = .returned (.agg #[.int .i64 l, .int .i64 r]) ∧ Below W0.heap.size W0 w') := ⟨_, _, Lib.hid (wallsOf_run a b _ _ _ _ W0 rfl rfl rfl rfl)⟩
    go_enter Tryz.func73, Tryz.ntmps73
    go_wp2_with fail
    rw [HW0.out]
    refine CW.out.mono ?_
    rintro e w1 ⟨rfl, hb1⟩
    have B1 := Lib.hid (B0.out.trans (hb1.mono B0.out.size))
    have K1 := Lib.hid (K0.out.later hb1)
    clear hb1 CW HW0
    have a0 : (w1.alloc (.cells #[.int .i64 l, .int .i64 r] 83)).cell? ⟨w.heap.size, 0, none⟩ = some (.int .i64 a) := cellA _ (by rw [K1.out.cell]; rfl)
    have a1 : (w1.alloc (.cells #[.int .i64 l, .int .i64 r] 83)).cell? ⟨w.heap.size, 1, none⟩ = some (.int .i64 b) := cellA _ (by rw [K1.out.cell]; rfl)
    have CA := Lib.hid (areAtMost_any (some ⟨(w1.alloc (.cells #[.int .i64 l, .int .i64 r] 83)).heap.size, 0, none⟩) 2 2 [a, b] 2000000 ((w1.alloc (.cells #[.int .i64 l, .int .i64 r] 83)).alloc (.cells #[.int .i64 a, .int .i64 b] 3)) (lit2 _ _ _ _ (by simp [go_sem]) (by simp [go_sem])) (by omega) (by omega))
    rw [show (-(2000000 : Int)) = -2000000 from rfl, hfF, World.size_alloc] at CA
    have HBG : Hid (Below w.heap.size w ((w1.alloc (.cells #[.int .i64 l, .int .i64 r] 83)).alloc (.cells #[.int .i64 a, .int .i64 b] 3))) := (B1.out.alloc B1.out.size _).alloc (by have := B1.out.size; simp; omega) _
    go_wp2_with fail
    refine CA.out.mono ?_
    rintro e w' ⟨rfl, rfl⟩
    clear CA a0 a1
    go_wp2
    go_ret
    exact ⟨by rw [HME.out]; rfl, HBG.out⟩

end Go.Proofs.YtjjflbnopphciaaGreatDoor

namespace Go.Proofs.YtjjflbnopphciaaGreatDoor
open Go.RowKit

def matsF : List (Int × Int) → Int
  | [] => 0
  | p :: ps => if matE p = 0 then matsF ps else matE p
def matsE (ws : List (Int × Int)) : Int := if 200 < ws.length then 8 else matsF ws
def wlsL (ws : List (Int × Int)) : List (Int × Int) := if matsE ws = 0 then ws.map wlsP else []
theorem matsF_step (ws : List (Int × Int)) (k : Nat) (h : k < ws.length) : matsF (ws.drop k) = if matE (ws.getD k (0, 0)) = 0 then matsF (ws.drop (k + 1)) else matE (ws.getD k (0, 0)) := by
  rw [List.drop_eq_getElem_cons h]
  simp only [matsF, List.getD_eq_getElem?_getD, List.getElem?_eq_getElem h, Option.getD_some]
theorem matE_ok {p : Int × Int} (h : matE p = 0) : -2000000 ≤ p.1 ∧ p.1 ≤ 2000000 ∧ -2000000 ≤ p.2 ∧ p.2 ≤ 2000000 ∧ (p.1 - p.2).tdiv 2 = (p.1 - p.2) / 2 ∧ (p.1 + p.2).tdiv 2 = (p.1 + p.2) / 2 := by
  unfold matE at h
  by_cases h1 : fromB (-2000000) 2000000 [p.1, p.2] = true
  · rw [if_pos h1] at h
    by_cases h2 : p.1 % 2 = p.2 % 2
    · have h3 := from_pair h1
      obtain ⟨m1, e1, e2⟩ := half (x := p.1 - p.2) rfl
      obtain ⟨m2, e3, e4⟩ := half (x := p.1 + p.2) rfl
      omega
    · rw [if_neg h2] at h; omega
  · rw [if_neg h1] at h; omega
def OwnResW (w : World) (E : Int) (ps : List (Int × Int)) (e : Ending) (w' : World) : Prop :=
  (∃ v, e = .returned (.tuple #[v, .int .i64 E]) ∧ w'.ownsRow w.heap.size 83 2 v ps.length (pairCells ps)) ∧ Below w.heap.size w w'
theorem OwnResW.none_ {w w' : World} {E : Int} (h : Below w.heap.size w w') : OwnResW w E [] (.returned (.tuple #[.slice none 0 0, .int .i64 E])) w' := ⟨⟨_, rfl, World.ownsRow_nil _ _ _ _⟩, h⟩

set_option maxRecDepth 100000 in
set_option maxHeartbeats 2000000 in
theorem converted_wls (g n c : Nat) (ws : List (Int × Int)) (w : World) (hr : RdR w g n ws) (hn : n ≤ 1000000) :
    Calls Tryz.prog 72 #[.slice (some ⟨g, 0, none⟩) n c, .func (.func 73) #[] #[], .func (.func 74) #[] #[]] w (OwnResW w (matsE ws) (wlsL ws)) := by
  have HR := Lib.hid hr
  have hln := hr.1
  have HE : Hid (matsE ws = if 200 < n then 8 else matsF ws) := by show _ = _; unfold matsE; rw [hln]
  have HLN := Lib.hid hln
  clear hr hln
  obtain ⟨i0, hi0, hz0, hz1, hz2⟩ := info_parts wlsInfo
  by_cases h1 : 200 < n
  · have h1I : (200 : Int) < (n : Int) := by omega
    have HL : Hid (wlsL ws = []) := by show _ = _; unfold wlsL; rw [if_neg (by rw [HE.out, if_pos h1]; decide)]
    have HE2 : Hid (matsE ws = 8) := by show _ = _; rw [HE.out, if_pos h1]
    rw [HE2.out, HL.out]
    go_enter Tryz.func72, Tryz.ntmps72
    go_wp2
    go_ret2
    exact OwnResW.none_ (Below.refl _ _)
  · have h1I : ¬ (200 : Int) < (n : Int) := by omega
    have HE2 : Hid (matsE ws = matsF ws) := by show _ = _; rw [HE.out, if_neg h1]
    go_enter Tryz.func72, Tryz.ntmps72
    go_wp2
    go_loopw [8, 17] (fun v i wr => ∃ k : Nat, k ≤ n ∧ i = .int .i64 k ∧ Hid (matsF ws = matsF (ws.drop k)) ∧ Hid (wr.ownsRow w.heap.size 83 2 v k (pairCells ((ws.take k).map wlsP)) ∧ Below w.heap.size w wr)) (fun _ i _ => n - (intOf i).toNat)
    case atStart => exact ⟨0, Nat.zero_le _, rfl, rfl, World.ownsRow_nil _ _ _ _, Below.refl _ _⟩
    case round =>
      obtain ⟨k, hk, rfl, HF, HI⟩ := hrel
      by_cases hlt : k < n
      · have hkI : (k : Int) < (n : Int) := by omega
        obtain ⟨q1, q2⟩ := (HR.out.below HI.out.2).2.2 k hlt
        have hstep := matsF_step ws k (by rw [HLN.out]; exact hlt)
        have htk : ws.take (k + 1) = ws.take k ++ [ws.getD k (0, 0)] := by
          rw [List.take_succ_eq_append_getElem (by rw [HLN.out]; exact hlt)]
          simp [List.getD_eq_getElem?_getD, List.getElem?_eq_getElem (show k < ws.length by rw [HLN.out]; exact hlt)]
        obtain ⟨⟨l, r⟩, hxy⟩ : ∃ p, ws.getD k (0, 0) = p := ⟨_, rfl⟩
        rw [hxy] at q1 q2 hstep htk
        dsimp only at q1 q2
        have HST := Lib.hid hstep
        have HTK := Lib.hid htk
        clear hstep htk hxy
        have CW := Lib.hid (checkMatrix_any l r (wr.alloc (.cells #[.int .i64 l, .int .i64 r] 86)))
        have b1 := Bk.new wr 86 #[.int .i64 l, .int .i64 r]
        have HB1 := Lib.hid b1
        clear b1
        by_cases hw0 : matE (l, r) = 0
        · have hok := matE_ok hw0
          dsimp only at hok
          rw [hw0] at CW
          have HF2 : Hid (matsF ws = matsF (ws.drop (k + 1))) := by show _ = _; rw [HF.out, HST.out, if_pos hw0]
          clear hw0
          go_wp2_with fail
          refine CW.out.mono ?_
          rintro e w2 ⟨rfl, hb2⟩
          have HB2 := Lib.hid (HB1.out.below hb2 (by simp))
          have HO2 := Lib.hid (ownLater (HI.out.1.alloc (.cells #[.int .i64 l, .int .i64 r] 86)) hb2)
          have HBW2 := Lib.hid ((HI.out.2.alloc HI.out.2.size (.cells #[.int .i64 l, .int .i64 r] 86)).trans (hb2.mono (by have := HI.out.2.size; simp; omega)))
          have d0 : w2.cell? ⟨wr.heap.size, 0, none⟩ = some (.int .i64 l) := by rw [HB2.out.cell]; rfl
          have d1 : w2.cell? ⟨wr.heap.size, 1, none⟩ = some (.int .i64 r) := by rw [HB2.out.cell]; rfl
          have CM := Lib.hid (wallsOf_run l r (l - r) (l + r) ((l - r) / 2) ((l + r) / 2) w2 (IntWalk.i64_in _ (by omega)) (IntWalk.i64_in _ (by omega)) (by rw [hok.2.2.2.2.1]; exact IntWalk.i64_in _ (by omega)) (by rw [hok.2.2.2.2.2]; exact IntWalk.i64_in _ (by omega)))
          clear hb2 CW
          go_wp2_with fail
          refine CM.out.mono ?_
          rintro e w3 ⟨rfl, hb3⟩
          have HO3 := Lib.hid (ownLater HO2.out hb3)
          have HBW3 := Lib.hid (HBW2.out.trans (hb3.mono HBW2.out.size))
          clear hb3 CM d0 d1
          go_wp2_with (at_builtin; refine wpList_append_own _ rfl (.tmp 27) (.tmp 31) 84 rfl w.heap.size 83 i0 _ 2 16 Tryz.underlying84 hi0 hz0 hz1 hz2 rfl (by decide) _ _ _ rfl (HO3.out.alloc _) ⟨w3.heap.size, 0, none⟩ 1 1 [.int .i64 ((l - r) / 2), .int .i64 ((l + r) / 2)] rfl rfl (two_new _ _ _ _) (by simp [Value.oneCell']) (by unfold maxLen; omega) (by omega) (by have := HBW3.out.size; simp; omega) ?_)
          intro v' w4 hown' hgrow _
          have HN : Hid (w4.ownsRow w.heap.size 83 2 v' (k + 1) (pairCells ((ws.take (k + 1)).map wlsP)) ∧ Below w.heap.size w w4) := by
            refine ⟨?_, (HBW3.out.alloc HBW3.out.size _).grown hgrow (by have := HBW3.out.size; simp; omega) (fun z e => (HO3.out.lt z e).1)⟩
            rw [HTK.out, List.map_append, List.map_cons, List.map_nil, pairCells_snoc, List.map_take]
            exact hown'
          clear hown' hgrow
          go_wp2
          go_roundw
          case rel => exact ⟨k + 1, by omega, by go_num, HF2.out, HN.out⟩
          case measure => simp [intOf]; omega
        · obtain ⟨E, hEe⟩ : ∃ E, matE (l, r) = E := ⟨_, rfl⟩
          have HFE : Hid (matsE ws = E) := by show _ = _; rw [HE2.out, HF.out, HST.out, if_neg hw0, hEe]
          rw [hEe] at CW hw0
          have hne : (E != 0) = true := by simpa using hw0
          have HL : Hid (wlsL ws = []) := by show _ = _; unfold wlsL; rw [if_neg (by rw [HFE.out]; exact hw0)]
          clear hEe hw0 HST
          go_wp2_with fail
          refine CW.out.mono ?_
          rintro e w2 ⟨rfl, hb2⟩
          have HBW2 := Lib.hid ((HI.out.2.alloc HI.out.2.size (.cells #[.int .i64 l, .int .i64 r] 86)).trans (hb2.mono (by have := HI.out.2.size; simp; omega)))
          clear hb2 CW
          go_wp2
          go_ret2
          rw [HFE.out, HL.out]
          exact OwnResW.none_ HBW2.out
      · obtain rfl : k = n := by omega
        have HF2 : Hid (matsE ws = 0) := by show _ = _; rw [HE2.out, HF.out, List.drop_eq_nil_of_le (by rw [HLN.out]; exact Nat.le_refl _)]; rfl
        have HL : Hid (wlsL ws = ws.map wlsP) := by show _ = _; unfold wlsL; rw [if_pos HF2.out]
        have HT : Hid (ws.take k = ws) := by show _ = _; rw [List.take_of_length_le (by rw [HLN.out]; exact Nat.le_refl _)]
        go_wp2
        go_ret2
        rw [HF2.out, HL.out]
        refine ⟨⟨_, rfl, ?_⟩, HI.out.2⟩
        have h := HI.out.1
        rw [HT.out] at h
        rw [List.length_map, HLN.out]
        exact h

theorem WallsOf_any (g n c : Nat) (ws : List (Int × Int)) (w : World) (hr : RdR w g n ws) (hn : n ≤ 1000000) :
    Calls Tryz.prog 43 #[.slice (some ⟨g, 0, none⟩) n c] w (OwnResW w (matsE ws) (wlsL ws)) := by
  have C := Lib.hid (converted_wls g n c ws w hr hn)
  clear hr
  go_enter Tryz.func43, Tryz.ntmps43
  go_wp2_with fail
  refine C.out.mono ?_
  rintro e w1 ⟨⟨v, rfl, ho⟩, hb⟩
  have HO := Lib.hid ho
  have HB := Lib.hid hb
  clear ho hb C
  go_wp2
  go_ret2
  exact ⟨⟨_, rfl, HO.out⟩, HB.out⟩

end Go.Proofs.YtjjflbnopphciaaGreatDoor

namespace Go.Proofs.YtjjflbnopphciaaGreatDoor
open Go.RowKit

theorem rngInfo : (Tryz.prog.info? 51).map (fun i => (i.zero, i.size, i.bytes)) = some (some (.agg #[.int .i64 0, .int .i64 0]), 2, 16) := by kernel_rfl
def OwnResR (w : World) (E : Int) (ps : List (Int × Int)) (e : Ending) (w' : World) : Prop :=
  (∃ v, e = .returned (.tuple #[v, .int .i64 E]) ∧ w'.ownsRow w.heap.size 51 2 v ps.length (pairCells ps)) ∧ Below w.heap.size w w'
theorem OwnResR.none_ {w w' : World} {E : Int} (h : Below w.heap.size w w') : OwnResR w E [] (.returned (.tuple #[.slice none 0 0, .int .i64 E])) w' := ⟨⟨_, rfl, World.ownsRow_nil _ _ _ _⟩, h⟩
theorem own_form {w : World} {base size n : Nat} {t : TypeId} {v : Value} {xs : List Value} (h : w.ownsRow base t size v n xs) : ∃ A cap, v = .slice A n cap ∧ (0 < n → ∃ g, A = some ⟨g, 0, none⟩) := by
  rcases h.2 with ⟨rfl, rfl⟩ | ⟨g, cap, cur, rfl, _⟩
  · exact ⟨none, 0, rfl, fun h => absurd h (by omega)⟩
  · exact ⟨_, cap, rfl, fun _ => ⟨g, rfl⟩⟩
theorem crF_skip {rows : List (List Int)} {path : List Int} {limit : Int} {k : Nat} (h : valAt rows path k ≤ limit) : crF rows path limit (k + 1) = crF rows path limit k := if_pos h
theorem crF_join {rows : List (List Int)} {path : List Int} {limit : Int} {k q : Nat} (h : ¬ valAt rows path k ≤ limit) (hq : (crF rows path limit k).length = q + 1) (he : ((crF rows path limit k).getD q (0, 0)).2 = (k : Int) - 1) : crF rows path limit (k + 1) = (crF rows path limit k).set q (((crF rows path limit k).getD q (0, 0)).1, (k : Int)) := by
  have e : (crF rows path limit k).length - 1 = q := by omega
  conv => lhs; unfold crF
  rw [if_neg h, e, if_pos ⟨by omega, he⟩]
theorem crF_apart {rows : List (List Int)} {path : List Int} {limit : Int} {k q : Nat} (h : ¬ valAt rows path k ≤ limit) (hq : (crF rows path limit k).length = q + 1) (he : ¬ ((crF rows path limit k).getD q (0, 0)).2 = (k : Int) - 1) : crF rows path limit (k + 1) = crF rows path limit k ++ [((k : Int), (k : Int))] := by
  have e : (crF rows path limit k).length - 1 = q := by omega
  conv => lhs; unfold crF
  rw [if_neg h, e, if_neg (fun hh => he hh.2)]
theorem crF_first {rows : List (List Int)} {path : List Int} {limit : Int} {k : Nat} (h : ¬ valAt rows path k ≤ limit) (hq : (crF rows path limit k).length = 0) : crF rows path limit (k + 1) = crF rows path limit k ++ [((k : Int), (k : Int))] := by
  conv => lhs; unfold crF
  rw [if_neg h, if_neg (fun hh => by omega)]

set_option maxRecDepth 100000 in
set_option maxHeartbeats 4000000 in
theorem CracksIn_ok (ad : Addr) (n c m c' : Nat) (B : Option Addr) (rows : List (List Int)) (b limit : Int) (P : Option Addr) (cp : Nat) (path : List Int) (w : World) (hr : RdG w (some ad) n rows) (hn : 0 < n ∧ n ≤ 1000000) (hm : m ≤ 1000000) (hadb : ad.block < w.heap.size) (hck : w.cell? ad = some (.slice B m c')) (hp : RdI w P n path) (hE : taskE rows b = 0) (hpe : pathE n m path = 0)
    (hg : ∀ r ∈ rows, r.length = m ∧ ∀ x ∈ r, 0 ≤ x ∧ x ≤ 255) (hlim : 0 ≤ limit ∧ limit ≤ 255) :
    Calls Tryz.prog 26 #[.agg #[.slice (some ad) n c, .int .i64 b], .slice P n cp, .int .i64 limit] w (OwnResR w 0 (crF rows path limit n)) := by
  have hb0 : Below w.heap.size w (w.alloc (.cells #[.slice (some ad) n c, .int .i64 b] 55)) := (Below.refl _ w).alloc (Nat.le_refl _) _
  have CC := Lib.hid (checkedWith_ok ad n c m c' B rows b P n cp path _ (hr.below hb0) hn hm hn.2 (Nat.lt_of_lt_of_le hadb hb0.size) ((hb0.cell hadb).trans hck) (hp.below hb0) hE hpe)
  have CA : Hid (∀ W g', W.cell? ⟨g', 0, none⟩ = some (.int .i64 limit) → Calls Tryz.prog 45 #[.int .i64 0, .int .i64 255, .slice (some ⟨g', 0, none⟩) 1 1] W fun e w' => e = .returned (.bool true) ∧ W = w') := fun W g' h => by
    have h2 := areFrom_any (some ⟨g', 0, none⟩) 1 1 [limit] 0 255 W (lit1 _ _ _ h) (by omega)
    rw [fromB_one.2 hlim] at h2
    exact h2
  obtain ⟨i0, hi0, hz0, hz1, hz2⟩ := info_parts rngInfo
  have HR := Lib.hid (hr.below hb0)
  have HP := Lib.hid (hp.below hb0)
  have HB0 := Lib.hid hb0
  have HGB := Lib.hid hg
  have HPI := Lib.hid (path_in hpe).2
  have hnb : n ≤ 1000000 := hn.2
  clear hr hb0 hck hp hE hpe hg hadb hlim
  go_enter Tryz.func26, Tryz.ntmps26
  go_wp2_with fail
  refine CC.out.mono ?_
  rintro e w1 ⟨rfl, hb1⟩
  have HB1 : Hid (Below w.heap.size w w1) := HB0.out.trans (hb1.mono HB0.out.size)
  have hb2 : Below w1.heap.size w1 ((w1.alloc (.cells #[.slice (some ad) n c, .int .i64 b, .int .i64 m] 104)).alloc (.cells #[.int .i64 limit] 3)) := ((Below.refl _ _).alloc (Nat.le_refl _) _).alloc (by simp) _
  have HR1 := Lib.hid ((HR.out.below hb1).below hb2)
  have HP1 := Lib.hid ((HP.out.below hb1).below hb2)
  have HN := Lib.hid ((Bk.new w1 104 #[.slice (some ad) n c, .int .i64 b, .int .i64 m]).alloc (.cells #[.int .i64 limit] 3))
  have HB2 : Hid (Below w.heap.size w ((w1.alloc (.cells #[.slice (some ad) n c, .int .i64 b, .int .i64 m] 104)).alloc (.cells #[.int .i64 limit] 3))) := HB1.out.trans (hb2.mono HB1.out.size)
  clear hb1 hb2 CC HR HP HB0
  go_wp2_with (go_at_call 45; refine (CA.out _ _ (by simp [go_sem])).mono ?_; rintro e w' ⟨rfl, rfl⟩)
  obtain ⟨g, hgw⟩ : ∃ g, w1.heap.size = g := ⟨_, rfl⟩
  rw [hgw] at HN
  obtain ⟨W1, hW1⟩ : ∃ W, ((w1.alloc (.cells #[.slice (some ad) n c, .int .i64 b, .int .i64 m] 104)).alloc (.cells #[.int .i64 limit] 3)) = W := ⟨_, rfl⟩
  rw [hW1] at HR1 HP1 HN HB2 ⊢
  try rw [hgw]
  clear hW1 hgw CA
  go_loopw [10, 31] (fun v i wr => ∃ j : Nat, j ≤ n ∧ i = .int .i64 j ∧ Hid (wr.ownsRow W1.heap.size 51 2 v (crF rows path limit j).length (pairCells (crF rows path limit j)) ∧ Below W1.heap.size W1 wr)) (fun _ i _ => n - (intOf i).toNat)
  case atStart => exact ⟨0, Nat.zero_le _, rfl, World.ownsRow_nil _ _ _ _, Below.refl _ _⟩
  case round =>
    obtain ⟨j, hj, rfl, HI⟩ := hrel
    by_cases hlt : j < n
    · have hjI : (j : Int) < (n : Int) := by omega
      have hj0 : (0 : Int) ≤ (j : Int) := by omega
      have hjl := crF_length rows path limit j
      have hsz : W1.heap.size ≤ wr.heap.size := HI.out.2.size
      have qn := HN.out.later HI.out.2
      have n0 : wr.cell? ⟨g, 0, none⟩ = some (.slice (some ad) n c) := by rw [qn.cell]; rfl
      obtain ⟨pd, hP, hpdb, hc⟩ := (HP1.out.below HI.out.2).2 (by omega)
      subst hP
      have c1 := hc j hlt
      have hx := HPI.out j hlt
      obtain ⟨x, hxe⟩ : ∃ x, path.getD j 0 = x := ⟨_, rfl⟩
      rw [hxe] at c1 hx
      obtain ⟨t, rfl⟩ : ∃ t : Nat, x = (t : Int) := ⟨x.toNat, by omega⟩
      have htm : t < m := by omega
      have htI : (t : Int) < (m : Int) := by omega
      have ht0 : (0 : Int) ≤ (t : Int) := by omega
      obtain ⟨bd, cb, r1, r2, hv0, hv1, _, _⟩ := grid_at (HR1.out.below HI.out.2) HGB.out j t hlt htm
      have HV : Hid (valAt rows path j = (rows.getD j []).getD t 0) := by show _ = _; unfold valAt; rw [hxe]; rfl
      obtain ⟨v, hve⟩ : ∃ v, (rows.getD j []).getD t 0 = v := ⟨_, rfl⟩
      rw [hve] at r2 hv0 hv1 HV
      clear hc hxe hve qn hx
      obtain ⟨ln, hln⟩ : ∃ ln, (crF rows path limit j).length = ln := ⟨_, rfl⟩
      have HLNE := Lib.hid hln
      rw [hln] at HI hjl
      have hlb : ln ≤ 1000000 := by omega
      obtain ⟨Ac, cap, rfl, hform⟩ := own_form HI.out.1
      by_cases hvl : v ≤ limit
      · have HJ : Hid (crF rows path limit (j + 1) = crF rows path limit j) := by
          show _ = _
          exact crF_skip (by rw [HV.out]; omega)
        clear hln hform
        go_wp2
        go_roundw
        case rel => exact ⟨j + 1, by omega, by go_num, by show _ ∧ _; rw [HJ.out, HLNE.out]; exact HI.out⟩
        case measure => simp [intOf]; omega
      · skip
        by_cases hl0 : ln = 0
        · subst hl0
          have HJ : Hid (crF rows path limit (j + 1) = crF rows path limit j ++ [((j : Int), (j : Int))]) := by
            show _ = _
            exact crF_first (by rw [HV.out]; omega) hln
          clear hln hform
          go_wp2_with (at_builtin; refine wpList_append_own _ rfl (.tmp 39) (.tmp 43) 67 rfl W1.heap.size 51 i0 _ 2 16 Tryz.underlying67 hi0 hz0 hz1 hz2 rfl (by decide) _ _ _ rfl (HI.out.1.alloc _) ⟨wr.heap.size, 0, none⟩ 1 1 [.int .i64 (j : Int), .int .i64 (j : Int)] rfl rfl (two_new _ _ _ _) (by simp [Value.oneCell']) (by unfold maxLen; omega) (by omega) (by simp; omega) ?_)
          intro v' w4 hown' hgrow _
          have HFIN : Hid (w4.ownsRow W1.heap.size 51 2 v' (crF rows path limit (j + 1)).length (pairCells (crF rows path limit (j + 1))) ∧ Below W1.heap.size W1 w4) := by
            refine ⟨?_, (HI.out.2.alloc HI.out.2.size _).grown hgrow (by simp; omega) (fun z e => (HI.out.1.lt z e).1)⟩
            rw [HJ.out, pairCells_snoc, List.length_append, HLNE.out]
            exact hown'
          clear hown' hgrow
          go_wp2
          go_roundw
          case rel => exact ⟨j + 1, by omega, by go_num, HFIN.out⟩
          case measure => simp [intOf]; omega
        · obtain ⟨q, hq⟩ : ∃ q, ln = q + 1 := ⟨ln - 1, by omega⟩
          obtain ⟨gc, rfl⟩ := hform (by omega)
          have HQ : Hid ((crF rows path limit j).length = q + 1) := hln.trans hq
          obtain ⟨_, hch⟩ := pairCells_at (crF rows path limit j) q (by rw [HQ.out]; omega)
          have hcq := (HI.out.1.cellAt (q * 2 + 1) (by omega)).trans hch
          have hfq := HI.out.1.frozenAt (q * 2 + 1)
          have hgc := (HI.out.1.lt gc rfl).1
          obtain ⟨hi, hhi⟩ : ∃ hi, ((crF rows path limit j).getD q (0, 0)).2 = hi := ⟨_, rfl⟩
          rw [hhi] at hcq
          have hz1' : IntKind.i64.wrap ((ln : Int) - 1) = (q : Int) := by rw [show (ln : Int) - 1 = (q : Int) by omega]; exact IntWalk.i64_in _ (by omega)
          have hz2' : (ln : Int) - 1 = (q : Int) := by omega
          have hz3' : (0 : Int) ≤ (q : Int) := by omega
          have hz4' : (q : Int) < (ln : Int) := by omega
          have hz5' : decide ((0 : Int) ≤ (q : Int)) = true := decide_eq_true (by omega)
          have hz6' : IntKind.i64.wrap ((j : Int) - 1) = (j : Int) - 1 := IntWalk.i64_in _ (by omega)
          have HLQ : Hid (ln = q + 1) := hq
          have hqb : q < 1000000 := by omega
          clear hch hln hq
          by_cases heq : hi = (j : Int) - 1
          · have HJ : Hid (crF rows path limit (j + 1) = (crF rows path limit j).set q (((crF rows path limit j).getD q (0, 0)).1, (j : Int))) := by
              show _ = _
              exact crF_join (by rw [HV.out]; omega) HQ.out (hhi.trans heq)
            have heb : (hi == (j : Int) - 1) = true := by rw [heq]; simp
            have HFIN : Hid ((wr.setCell ⟨gc, q * 2 + 1, none⟩ (.int .i64 (j : Int))).ownsRow W1.heap.size 51 2 (.slice (some ⟨gc, 0, none⟩) ln cap) (crF rows path limit (j + 1)).length (pairCells (crF rows path limit (j + 1))) ∧ Below W1.heap.size W1 (wr.setCell ⟨gc, q * 2 + 1, none⟩ (.int .i64 (j : Int)))) := by
              refine ⟨?_, HI.out.2.setCell (p := ⟨gc, q * 2 + 1, none⟩) hgc _⟩
              have h := (HI.out.1.stored (q * 2 + 1) (.int .i64 (j : Int))).1
              rw [pairCells_set2 _ _ _ (by rw [HQ.out]; omega)] at h
              rw [HJ.out, List.length_set, HLNE.out]
              exact h
            clear heq hhi
            go_wp2
            go_roundw
            case rel => exact ⟨j + 1, by omega, by go_num, HFIN.out⟩
            case measure => simp [intOf]; omega
          · have HJ : Hid (crF rows path limit (j + 1) = crF rows path limit j ++ [((j : Int), (j : Int))]) := by
              show _ = _
              exact crF_apart (by rw [HV.out]; omega) HQ.out (by rw [hhi]; exact heq)
            have heb : (hi == (j : Int) - 1) = false := by rw [beq_eq_false_iff_ne]; exact heq
            clear heq hhi
            go_wp2_with (at_builtin; refine wpList_append_own _ rfl (.tmp 39) (.tmp 43) 67 rfl W1.heap.size 51 i0 _ 2 16 Tryz.underlying67 hi0 hz0 hz1 hz2 rfl (by decide) _ _ _ rfl (HI.out.1.alloc _) ⟨wr.heap.size, 0, none⟩ 1 1 [.int .i64 (j : Int), .int .i64 (j : Int)] rfl rfl (two_new _ _ _ _) (by simp [Value.oneCell']) (by unfold maxLen; omega) (by omega) (by simp; omega) ?_)
            intro v' w4 hown' hgrow _
            have HFIN : Hid (w4.ownsRow W1.heap.size 51 2 v' (crF rows path limit (j + 1)).length (pairCells (crF rows path limit (j + 1))) ∧ Below W1.heap.size W1 w4) := by
              refine ⟨?_, (HI.out.2.alloc HI.out.2.size _).grown hgrow (by simp; omega) (fun z e => (HI.out.1.lt z e).1)⟩
              rw [HJ.out, pairCells_snoc, List.length_append, HLNE.out]
              exact hown'
            clear hown' hgrow
            go_wp2
            go_roundw
            case rel => exact ⟨j + 1, by omega, by go_num, HFIN.out⟩
            case measure => simp [intOf]; omega
    · obtain rfl : n = j := by omega
      go_wp2
      go_ret2
      exact ⟨⟨_, rfl, ownMono HI.out.1 HB2.out.size⟩, HB2.out.trans (HI.out.2.mono HB2.out.size)⟩

set_option maxRecDepth 100000 in
set_option maxHeartbeats 1000000 in
theorem CracksIn_err (A : Option Addr) (n c : Nat) (b limit : Int) (P : Option Addr) (k cp : Nat) (E : Int) (w : World) (hE : E ≠ 0)
    (hc : Calls Tryz.prog 55 #[.agg #[.slice A n c, .int .i64 b], .slice P k cp] (w.alloc (.cells #[.slice A n c, .int .i64 b] 55)) fun e w' => e = .returned (.tuple #[.agg #[.slice none 0 0, .int .i64 0, .int .i64 0], .int .i64 E]) ∧ Below (w.alloc (.cells #[.slice A n c, .int .i64 b] 55)).heap.size (w.alloc (.cells #[.slice A n c, .int .i64 b] 55)) w') :
    Calls Tryz.prog 26 #[.agg #[.slice A n c, .int .i64 b], .slice P k cp, .int .i64 limit] w (OwnResR w E []) := by
  have hb0 : Below w.heap.size w (w.alloc (.cells #[.slice A n c, .int .i64 b] 55)) := (Below.refl _ w).alloc (Nat.le_refl _) _
  have CC := Lib.hid hc
  have HB0 := Lib.hid hb0
  have h1 : (E != 0) = true := by simpa using hE
  clear hc hb0 hE
  go_enter Tryz.func26, Tryz.ntmps26
  go_wp2_with fail
  refine CC.out.mono ?_
  rintro e w1 ⟨rfl, hb1⟩
  have HB1 : Hid (Below w.heap.size w w1) := HB0.out.trans (hb1.mono HB0.out.size)
  clear hb1 CC
  go_wp2
  go_ret2
  exact OwnResR.none_ (HB1.out.alloc HB1.out.size _)

set_option maxRecDepth 100000 in
set_option maxHeartbeats 1000000 in
theorem CracksIn_lim (A : Option Addr) (n c m : Nat) (b limit : Int) (P : Option Addr) (k cp : Nat) (w : World) (hl : ¬ (0 ≤ limit ∧ limit ≤ 255))
    (hc : Calls Tryz.prog 55 #[.agg #[.slice A n c, .int .i64 b], .slice P k cp] (w.alloc (.cells #[.slice A n c, .int .i64 b] 55)) fun e w' => e = .returned (.tuple #[.agg #[.slice A n c, .int .i64 b, .int .i64 m], .int .i64 0]) ∧ Below (w.alloc (.cells #[.slice A n c, .int .i64 b] 55)).heap.size (w.alloc (.cells #[.slice A n c, .int .i64 b] 55)) w') :
    Calls Tryz.prog 26 #[.agg #[.slice A n c, .int .i64 b], .slice P k cp, .int .i64 limit] w (OwnResR w 2 []) := by
  have hb0 : Below w.heap.size w (w.alloc (.cells #[.slice A n c, .int .i64 b] 55)) := (Below.refl _ w).alloc (Nat.le_refl _) _
  have CC := Lib.hid hc
  have HB0 := Lib.hid hb0
  have CA : Hid (∀ W g', W.cell? ⟨g', 0, none⟩ = some (.int .i64 limit) → Calls Tryz.prog 45 #[.int .i64 0, .int .i64 255, .slice (some ⟨g', 0, none⟩) 1 1] W fun e w' => e = .returned (.bool false) ∧ W = w') := fun W g' h => by
    have h2 := areFrom_any (some ⟨g', 0, none⟩) 1 1 [limit] 0 255 W (lit1 _ _ _ h) (by omega)
    rw [show fromB 0 255 [limit] = false by rw [Bool.eq_false_iff]; intro e; exact hl (fromB_one.1 e)] at h2
    exact h2
  clear hc hb0 hl
  go_enter Tryz.func26, Tryz.ntmps26
  go_wp2_with fail
  refine CC.out.mono ?_
  rintro e w1 ⟨rfl, hb1⟩
  have HB1 : Hid (Below w.heap.size w w1) := HB0.out.trans (hb1.mono HB0.out.size)
  clear hb1 CC
  go_wp2_with (go_at_call 45; refine (CA.out _ _ (by simp [go_sem])).mono ?_; rintro e w' ⟨rfl, rfl⟩)
  go_ret2
  exact OwnResR.none_ ((HB1.out.alloc HB1.out.size _).alloc (by have := HB1.out.size; simp; omega) _)

def crkE (rows : List (List Int)) (b : Int) (n : Nat) (path : List Int) (limit : Int) : Int := if cstE rows b n path = 0 then (if 0 ≤ limit ∧ limit ≤ 255 then 0 else 2) else cstE rows b n path
def crkL (rows : List (List Int)) (b : Int) (n : Nat) (path : List Int) (limit : Int) : List (Int × Int) := if crkE rows b n path limit = 0 then crF rows path limit n else []
theorem CracksIn_any (A : Option Addr) (n c : Nat) (rows : List (List Int)) (b limit : Int) (P : Option Addr) (k cp : Nat) (path : List Int) (w : World) (hr : RdG w A n rows) (hn : n ≤ 1000000) (hp : RdI w P k path) (hk : k ≤ 1000000) :
    Calls Tryz.prog 26 #[.agg #[.slice A n c, .int .i64 b], .slice P k cp, .int .i64 limit] w (OwnResR w (crkE rows b n path limit) (crkL rows b n path limit)) := by
  have hb0 : Below w.heap.size w (w.alloc (.cells #[.slice A n c, .int .i64 b] 55)) := (Below.refl _ w).alloc (Nat.le_refl _) _
  by_cases hE : taskE rows b = 0
  · have hc : cstE rows b n path = pathE n (colsOf rows) path := by unfold cstE; rw [if_pos hE]
    obtain ⟨ad, m, c', B, rfl, hcm, h0, h40, hm0, hm12, hadb, hck, hbb, hg⟩ := task_parts hr hE
    rw [hcm] at hc
    by_cases hpe : pathE n m path = 0
    · have hkn : k = n := by rw [← hp.1, (path_in hpe).1]
      subst hkn
      rw [hpe] at hc
      by_cases hl : 0 ≤ limit ∧ limit ≤ 255
      · have e : crkE rows b k path limit = 0 := by unfold crkE; rw [if_pos hc, if_pos hl]
        unfold crkL
        rw [e, if_pos rfl]
        exact CracksIn_ok ad k c m c' B rows b limit P cp path w hr ⟨h0, hn⟩ (by omega) hadb hck hp hE hpe hg hl
      · have e : crkE rows b k path limit = 2 := by unfold crkE; rw [if_pos hc, if_neg hl]
        unfold crkL
        rw [e, if_neg (by decide)]
        exact CracksIn_lim (some ad) k c m b limit P k cp w hl (checkedWith_ok ad k c m c' B rows b P k cp path _ (hr.below hb0) ⟨h0, hn⟩ (by omega) hk (Nat.lt_of_lt_of_le hadb hb0.size) ((hb0.cell hadb).trans hck) (hp.below hb0) hE hpe)
    · have e : crkE rows b n path limit = pathE n m path := by unfold crkE; rw [if_neg (by rw [hc]; exact hpe), hc]
      unfold crkL
      rw [e, if_neg hpe]
      exact CracksIn_err (some ad) n c b limit P k cp _ w hpe (checkedWith_err2 ad n c m c' B rows b P k cp path _ (hr.below hb0) ⟨h0, hn⟩ (by omega) hk (Nat.lt_of_lt_of_le hadb hb0.size) ((hb0.cell hadb).trans hck) (hp.below hb0) hE hpe)
  · have hc : cstE rows b n path = taskE rows b := by unfold cstE; rw [if_neg hE]
    have e : crkE rows b n path limit = taskE rows b := by unfold crkE; rw [if_neg (by rw [hc]; exact hE), hc]
    unfold crkL
    rw [e, if_neg hE]
    exact CracksIn_err A n c b limit P k cp _ w hE (checkedWith_err1 A n c rows b P k cp _ (hr.below hb0) hn hE)

end Go.Proofs.YtjjflbnopphciaaGreatDoor

