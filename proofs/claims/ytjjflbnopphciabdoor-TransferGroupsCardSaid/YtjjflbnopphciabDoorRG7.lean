import Derived.Test.YtjjflbnopphciabDoorRG6
namespace Go.Proofs.YtjjflbnopphciabDoor
open Go.RowKit

/-- Block g holds n equations whose numbers are M's. -/
def EqB (W : World) (g n : Nat) (M : Nat → Nat → Int) : Prop := ∃ arr, Bk W g 74 arr ∧ arr.size = n * 12 ∧ ∀ r k, r < n → k < 12 → arr[r * 12 + k]? = some (.int .i64 (M r k))
theorem EqB.lt {W : World} {g n : Nat} {M : Nat → Nat → Int} (h : EqB W g n M) : g < W.heap.size := by obtain ⟨a, hb, _⟩ := h; exact hb.lt
theorem EqB.cell {W : World} {g n : Nat} {M : Nat → Nat → Int} (h : EqB W g n M) {r k : Nat} (hr : r < n) (hk : k < 12) : W.cell? ⟨g, r * 12 + k, none⟩ = some (.int .i64 (M r k)) := by
  obtain ⟨a, hb, _, hc⟩ := h
  rw [hb.cell]; exact hc r k hr hk
theorem EqB.frozen {W : World} {g n : Nat} {M : Nat → Nat → Int} (h : EqB W g n M) (i : Nat) : W.frozen? ⟨g, i, none⟩ = false := by
  obtain ⟨a, hb, _⟩ := h; exact hb.frozen i
theorem EqB.later {W W' : World} {g n : Nat} {M : Nat → Nat → Int} (h : EqB W g n M) (hb : Below W.heap.size W W') : EqB W' g n M := by
  obtain ⟨a, h1, h2⟩ := h; exact ⟨a, h1.below hb h1.lt, h2⟩
theorem EqB.drew {W : World} {g n : Nat} {M : Nat → Nat → Int} (h : EqB W g n M) : EqB W.drew g n M := h
theorem EqB.congr {W : World} {g n : Nat} {M N : Nat → Nat → Int} (h : EqB W g n M) (e : ∀ r k, r < n → k < 12 → M r k = N r k) : EqB W g n N := by
  obtain ⟨a, h1, h2, h3⟩ := h; exact ⟨a, h1, h2, fun r k hr hk => by rw [← e r k hr hk]; exact h3 r k hr hk⟩
theorem EqB.set1 {W : World} {g n : Nat} {M : Nat → Nat → Int} (h : EqB W g n M) {r k : Nat} (hr : r < n) (hk : k < 12) (v : Int) : EqB (W.setCell ⟨g, r * 12 + k, none⟩ (.int .i64 v)) g n (fun r' k' => if r' = r ∧ k' = k then v else M r' k') := by
  obtain ⟨a, h1, h2, h3⟩ := h
  refine ⟨a.setIfInBounds (r * 12 + k) (.int .i64 v), h1.set_ _ _, by simp [h2], fun r' k' hr' hk' => ?_⟩
  dsimp only
  rw [Array.getElem?_setIfInBounds]
  by_cases e : r' = r ∧ k' = k
  · obtain ⟨rfl, rfl⟩ := e
    rw [if_pos rfl, if_pos (by omega), if_pos ⟨rfl, rfl⟩]
  · rw [if_neg (by omega), if_neg e]; exact h3 r' k' hr' hk'
theorem EqB.row {W : World} {g n : Nat} {M : Nat → Nat → Int} (h : EqB W g n M) {r : Nat} (hr : r < n) (f : Nat → Int) : EqB ((((((((((((W.setCell ⟨g, r * 12, none⟩ (.int .i64 (f 0))).setCell ⟨g, r * 12 + 1, none⟩ (.int .i64 (f 1))).setCell ⟨g, r * 12 + 2, none⟩ (.int .i64 (f 2))).setCell ⟨g, r * 12 + 3, none⟩ (.int .i64 (f 3))).setCell ⟨g, r * 12 + 4, none⟩ (.int .i64 (f 4))).setCell ⟨g, r * 12 + 5, none⟩ (.int .i64 (f 5))).setCell ⟨g, r * 12 + 6, none⟩ (.int .i64 (f 6))).setCell ⟨g, r * 12 + 7, none⟩ (.int .i64 (f 7))).setCell ⟨g, r * 12 + 8, none⟩ (.int .i64 (f 8))).setCell ⟨g, r * 12 + 9, none⟩ (.int .i64 (f 9))).setCell ⟨g, r * 12 + 10, none⟩ (.int .i64 (f 10))).setCell ⟨g, r * 12 + 11, none⟩ (.int .i64 (f 11))) g n (fun r' k' => if r' = r then f k' else M r' k') := by
  refine EqB.congr (EqB.set1 (EqB.set1 (EqB.set1 (EqB.set1 (EqB.set1 (EqB.set1 (EqB.set1 (EqB.set1 (EqB.set1 (EqB.set1 (EqB.set1 (EqB.set1 h hr (show 0 < 12 by omega) (f 0)) hr (show 1 < 12 by omega) (f 1)) hr (show 2 < 12 by omega) (f 2)) hr (show 3 < 12 by omega) (f 3)) hr (show 4 < 12 by omega) (f 4)) hr (show 5 < 12 by omega) (f 5)) hr (show 6 < 12 by omega) (f 6)) hr (show 7 < 12 by omega) (f 7)) hr (show 8 < 12 by omega) (f 8)) hr (show 9 < 12 by omega) (f 9)) hr (show 10 < 12 by omega) (f 10)) hr (show 11 < 12 by omega) (f 11)) fun r' k' hr' hk' => ?_
  by_cases e : r' = r
  · subst e
    rcases j12 hk' with rfl | rfl | rfl | rfl | rfl | rfl | rfl | rfl | rfl | rfl | rfl | rfl <;> simp
  · simp [e]
theorem row_below {W w : World} {g : Nat} (h : Below g w W) (r : Nat) (f : Nat → Int) : Below g w ((((((((((((W.setCell ⟨g, r * 12, none⟩ (.int .i64 (f 0))).setCell ⟨g, r * 12 + 1, none⟩ (.int .i64 (f 1))).setCell ⟨g, r * 12 + 2, none⟩ (.int .i64 (f 2))).setCell ⟨g, r * 12 + 3, none⟩ (.int .i64 (f 3))).setCell ⟨g, r * 12 + 4, none⟩ (.int .i64 (f 4))).setCell ⟨g, r * 12 + 5, none⟩ (.int .i64 (f 5))).setCell ⟨g, r * 12 + 6, none⟩ (.int .i64 (f 6))).setCell ⟨g, r * 12 + 7, none⟩ (.int .i64 (f 7))).setCell ⟨g, r * 12 + 8, none⟩ (.int .i64 (f 8))).setCell ⟨g, r * 12 + 9, none⟩ (.int .i64 (f 9))).setCell ⟨g, r * 12 + 10, none⟩ (.int .i64 (f 10))).setCell ⟨g, r * 12 + 11, none⟩ (.int .i64 (f 11))) :=
  (Below.setCell (Below.setCell (Below.setCell (Below.setCell (Below.setCell (Below.setCell (Below.setCell (Below.setCell (Below.setCell (Below.setCell (Below.setCell (Below.setCell h (Nat.le_refl g) _) (Nat.le_refl g) _) (Nat.le_refl g) _) (Nat.le_refl g) _) (Nat.le_refl g) _) (Nat.le_refl g) _) (Nat.le_refl g) _) (Nat.le_refl g) _) (Nat.le_refl g) _) (Nat.le_refl g) _) (Nat.le_refl g) _) (Nat.le_refl g) _)
/-- Where the elimination of column c stands: row c is done, and the others below r0. -/
def prtF (c : Nat) (N : Nat → Nat → Int) (r0 r k : Nat) : Int :=
  if r = c then N c k * invT (N c c) % 65537 else if r < r0 then (N r k - N c k * invT (N c c) % 65537 * N r c % 65537) % 65537 else N r k
theorem prtF_bd {c : Nat} {N : Nat → Nat → Int} (h : ∀ r k, 0 ≤ N r k ∧ N r k ≤ 65536) (r0 r k : Nat) : 0 ≤ prtF c N r0 r k ∧ prtF c N r0 r k ≤ 65536 := by
  unfold prtF; split
  · exact emod_bd _
  · split
    · exact emod_bd _
    · exact h r k
theorem prtF_end {c n : Nat} {N : Nat → Nat → Int} (r k : Nat) (hr : r < n) : prtF c N n r k = stpF c N r k := by
  unfold prtF stpF
  by_cases e : r = c
  · rw [if_pos e, if_pos e]
  · rw [if_neg e, if_neg e, if_pos hr]
theorem prtF_c (c : Nat) (N : Nat → Nat → Int) (r0 k : Nat) : prtF c N r0 c k = N c k * invT (N c c) % 65537 := if_pos rfl
theorem prtF_r {c : Nat} {N : Nat → Nat → Int} {r : Nat} (k : Nat) (h : r ≠ c) : prtF c N r r k = N r k := by unfold prtF; rw [if_neg h, if_neg (by omega)]

set_option maxRecDepth 100000 in
set_option maxHeartbeats 16000000 in
theorem solve_any (g n : Nat) (M : Nat → Nat → Int) (w : World) (hn : n ≤ 4) (hM : ∀ r k, 0 ≤ M r k ∧ M r k ≤ 65536) (hE : EqB w g n M) :
    Calls Tryd.prog 33 #[.slice (some ⟨g, 0, none⟩) n n] w fun e w' => (∃ v, e = .returned v) ∧ EqB w' g n (slvF M n) ∧ Below g w w' := by
  have H0 := Lib.hid hE
  have HMB := Lib.hid hM
  clear hE hM
  go_enter Tryd.func33, Tryd.ntmps33
  go_wp2
  go_loopw [6] (fun i wr => ∃ c : Nat, c ≤ n ∧ i = .int .i64 c ∧ Hid (EqB wr g n (slvF M c)) ∧ Hid (Below g w wr)) (fun i _ => n - (intOf i).toNat)
  case atStart => exact ⟨0, Nat.zero_le _, rfl, H0.out, Below.refl _ _⟩
  case round =>
    obtain ⟨c, hcn, rfl, HN0, HB⟩ := hrel
    by_cases hc : c < n
    · have hcI : (c : Int) < (n : Int) := by omega
      have hc4 : (c : Int) < 4 := by omega
      obtain ⟨N, hNN⟩ : ∃ N, slvF M c = N := ⟨_, rfl⟩
      have HNB : Hid (∀ r k, 0 ≤ N r k ∧ N r k ≤ 65536) := by show ∀ r k, _; rw [← hNN]; exact slvF_bd M HMB.out c
      have HN : Hid (EqB wr g n N) := by show EqB _ _ _ _; rw [← hNN]; exact HN0.out
      have HNN := Lib.hid hNN
      obtain ⟨P, hP⟩ : ∃ P, (fun k => N c k * invT (N c c) % 65537) = P := ⟨_, rfl⟩
      have HP : Hid (∀ k, P k = N c k * invT (N c c) % 65537) := fun k => by rw [← hP]
      have HPB : Hid (∀ k, 0 ≤ P k ∧ P k ≤ 65536) := fun k => by rw [HP.out]; exact emod_bd _
      have CI : Hid (∀ W, Calls Tryd.prog 53 #[.int .i64 (N c c)] W fun e w' => e = .returned (.int .i64 (invT (N c c))) ∧ W = w') := fun W => inverseOf_any _ (HNB.out c c).1 (HNB.out c c).2 W
      have CT : Hid (∀ W, Calls Tryd.prog 62 #[.agg (eRow (fun k => N c k)), .int .i64 (invT (N c c))] W fun e w' => e = .returned (.agg (eRow P)) ∧ Below W.heap.size W w') := fun W => by
        have hi := invT_bd (N c c)
        rw [← hP]; exact times_any (fun k => N c k) (invT (N c c)) W (fun k => HNB.out c k) ⟨hi.1, by omega⟩
      have hwt : wr.drew.cell? ⟨g, c * 12 + c, none⟩ = some (.int .i64 (N c c)) := HN.out.cell hc (by omega)
      have x0 : wr.drew.cell? ⟨g, c * 12, none⟩ = some (.int .i64 (N c 0)) := HN.out.cell (r := c) (k := 0) hc (by omega)
      have x1 : wr.drew.cell? ⟨g, c * 12 + 1, none⟩ = some (.int .i64 (N c 1)) := HN.out.cell (r := c) (k := 1) hc (by omega)
      have x2 : wr.drew.cell? ⟨g, c * 12 + 2, none⟩ = some (.int .i64 (N c 2)) := HN.out.cell (r := c) (k := 2) hc (by omega)
      have x3 : wr.drew.cell? ⟨g, c * 12 + 3, none⟩ = some (.int .i64 (N c 3)) := HN.out.cell (r := c) (k := 3) hc (by omega)
      have x4 : wr.drew.cell? ⟨g, c * 12 + 4, none⟩ = some (.int .i64 (N c 4)) := HN.out.cell (r := c) (k := 4) hc (by omega)
      have x5 : wr.drew.cell? ⟨g, c * 12 + 5, none⟩ = some (.int .i64 (N c 5)) := HN.out.cell (r := c) (k := 5) hc (by omega)
      have x6 : wr.drew.cell? ⟨g, c * 12 + 6, none⟩ = some (.int .i64 (N c 6)) := HN.out.cell (r := c) (k := 6) hc (by omega)
      have x7 : wr.drew.cell? ⟨g, c * 12 + 7, none⟩ = some (.int .i64 (N c 7)) := HN.out.cell (r := c) (k := 7) hc (by omega)
      have x8 : wr.drew.cell? ⟨g, c * 12 + 8, none⟩ = some (.int .i64 (N c 8)) := HN.out.cell (r := c) (k := 8) hc (by omega)
      have x9 : wr.drew.cell? ⟨g, c * 12 + 9, none⟩ = some (.int .i64 (N c 9)) := HN.out.cell (r := c) (k := 9) hc (by omega)
      have x10 : wr.drew.cell? ⟨g, c * 12 + 10, none⟩ = some (.int .i64 (N c 10)) := HN.out.cell (r := c) (k := 10) hc (by omega)
      have x11 : wr.drew.cell? ⟨g, c * 12 + 11, none⟩ = some (.int .i64 (N c 11)) := HN.out.cell (r := c) (k := 11) hc (by omega)
      clear hNN hP HN0
      go_upto_region 3 with fail
      refine wp_region_held_drew (S := (fun _ : World => True)) (by kernel_rfl) (trivial) ?_
      intro hHeld
      refine wpAnyH_take (i := 0) (v := ?_) rfl (by kernel_rfl) (by kernel_rfl) (by kernel_rfl) (fun _ _ _ h => h) (Or.inl ⟨by rfl, ?_⟩) (by assumption) ?_
      rotate_left
      · intro w hSw; (try dsimp only at hSw); go_simp; (try (with_reducible rfl))
      try simp only [List.getElem_toArray, List.getElem_cons_succ, List.getElem_cons_zero, Act.put, List.setIfInBounds_toArray, List.set_cons_zero, List.set_cons_succ]
      refine wpAnyH_take (i := 1) (v := ?_) rfl (by kernel_rfl) (by kernel_rfl) (by kernel_rfl) (fun _ _ _ h => h) (Or.inl ⟨by rfl, ?_⟩) (by assumption) ?_
      rotate_left
      · intro w hSw; (try dsimp only at hSw); go_simp; (try (with_reducible rfl))
      try simp only [List.getElem_toArray, List.getElem_cons_succ, List.getElem_cons_zero, Act.put, List.setIfInBounds_toArray, List.set_cons_zero, List.set_cons_succ]
      refine wpAnyH_take (i := 2) (v := ?_) rfl (by kernel_rfl) (by kernel_rfl) (by kernel_rfl) (fun _ _ _ h => h) (Or.inl ⟨by rfl, ?_⟩) (by assumption) ?_
      rotate_left
      · intro w hSw; (try dsimp only at hSw); go_simp; (try (with_reducible rfl))
      try simp only [List.getElem_toArray, List.getElem_cons_succ, List.getElem_cons_zero, Act.put, List.setIfInBounds_toArray, List.set_cons_zero, List.set_cons_succ]
      refine wpAnyH_take (i := 3) (v := ?_) rfl (by kernel_rfl) (by kernel_rfl) (by kernel_rfl) (fun _ _ _ h => h) (Or.inl ⟨by rfl, ?_⟩) (by assumption) ?_
      rotate_left
      · intro w hSw; (try dsimp only at hSw); go_simp; (try (with_reducible rfl))
      try simp only [List.getElem_toArray, List.getElem_cons_succ, List.getElem_cons_zero, Act.put, List.setIfInBounds_toArray, List.set_cons_zero, List.set_cons_succ]
      refine wpAnyH_take (i := 4) (v := ?_) rfl (by kernel_rfl) (by kernel_rfl) (by kernel_rfl) (fun _ _ _ h => h) (Or.inl ⟨by rfl, ?_⟩) (by assumption) ?_
      rotate_left
      · intro w hSw; (try dsimp only at hSw); go_simp; (try (with_reducible rfl))
      try simp only [List.getElem_toArray, List.getElem_cons_succ, List.getElem_cons_zero, Act.put, List.setIfInBounds_toArray, List.set_cons_zero, List.set_cons_succ]
      refine wpAnyH_take (i := 6) (v := ?_) rfl (by kernel_rfl) (by kernel_rfl) (by kernel_rfl) (fun _ _ _ h => h) (Or.inl ⟨by rfl, ?_⟩) (by assumption) ?_
      rotate_left
      · intro w hSw; (try dsimp only at hSw); go_simp; (try (with_reducible rfl))
      try simp only [List.getElem_toArray, List.getElem_cons_succ, List.getElem_cons_zero, Act.put, List.setIfInBounds_toArray, List.set_cons_zero, List.set_cons_succ]
      refine wpAnyH_take (i := 7) (v := ?_) rfl (by kernel_rfl) (by kernel_rfl) (by kernel_rfl) (fun _ _ _ h => h) (Or.inl ⟨by rfl, ?_⟩) (by assumption) ?_
      rotate_left
      · intro w hSw; (try dsimp only at hSw); go_simp; (try (with_reducible rfl))
      try simp only [List.getElem_toArray, List.getElem_cons_succ, List.getElem_cons_zero, Act.put, List.setIfInBounds_toArray, List.set_cons_zero, List.set_cons_succ]
      refine wpAnyH_take (i := 8) (v := ?_) rfl (by kernel_rfl) (by kernel_rfl) (by kernel_rfl) (fun _ _ _ h => h) (Or.inl ⟨by rfl, ?_⟩) (by assumption) ?_
      rotate_left
      · intro w hSw; (try dsimp only at hSw); go_simp; (try (with_reducible rfl))
      try simp only [List.getElem_toArray, List.getElem_cons_succ, List.getElem_cons_zero, Act.put, List.setIfInBounds_toArray, List.set_cons_zero, List.set_cons_succ]
      refine wpAnyH_take (i := 9) (v := ?_) rfl (by kernel_rfl) (by kernel_rfl) (by kernel_rfl) (fun _ _ _ h => h) (Or.inl ⟨by rfl, ?_⟩) (by assumption) ?_
      rotate_left
      · intro w hSw; (try dsimp only at hSw); go_simp; (try (with_reducible rfl))
      try simp only [List.getElem_toArray, List.getElem_cons_succ, List.getElem_cons_zero, Act.put, List.setIfInBounds_toArray, List.set_cons_zero, List.set_cons_succ]
      refine wpAnyH_take (i := 10) (v := ?_) rfl (by kernel_rfl) (by kernel_rfl) (by kernel_rfl) (fun _ _ _ h => h) (Or.inl ⟨by rfl, ?_⟩) (by assumption) ?_
      rotate_left
      · intro w hSw; (try dsimp only at hSw); go_simp; (try (with_reducible rfl))
      try simp only [List.getElem_toArray, List.getElem_cons_succ, List.getElem_cons_zero, Act.put, List.setIfInBounds_toArray, List.set_cons_zero, List.set_cons_succ]
      refine wpAnyH_take (i := 11) (v := ?_) rfl (by kernel_rfl) (by kernel_rfl) (by kernel_rfl) (fun _ _ _ h => h) (Or.inl ⟨by rfl, ?_⟩) (by assumption) ?_
      rotate_left
      · intro w hSw; (try dsimp only at hSw); go_simp; (try (with_reducible rfl))
      try simp only [List.getElem_toArray, List.getElem_cons_succ, List.getElem_cons_zero, Act.put, List.setIfInBounds_toArray, List.set_cons_zero, List.set_cons_succ]
      refine wpAnyH_ready (rs := [5, 12]) (by kernel_rfl) (by simp) ?_
      refine AllReadyH.cons rfl (fun K hK => ?_) (AllReadyH.cons rfl (fun K hK => ?_) AllReadyH.nil)
      · go_simp
        refine hK.out _ _ (trivial) (fun hHeld => ?_)
        clear hK K
        try simp only [List.getElem_toArray, List.getElem_cons_succ, List.getElem_cons_zero, Act.put, List.setIfInBounds_toArray, List.set_cons_zero, List.set_cons_succ]
        refine wpAnyH_ready (rs := [12]) (by kernel_rfl) (by simp) ?_
        refine AllReadyH.cons rfl (fun K hK => ?_) AllReadyH.nil
        go_simp
        refine hK.out _ _ (trivial) (fun hHeld => ?_)
        clear hK K
        try simp only [List.getElem_toArray, List.getElem_cons_succ, List.getElem_cons_zero, Act.put, List.setIfInBounds_toArray, List.set_cons_zero, List.set_cons_succ]
        refine wpAnyH_ready (rs := [13]) (by kernel_rfl) (by simp) ?_
        refine AllReadyH.cons rfl (fun K hK => ?_) AllReadyH.nil
        go_simp
        go_at_call 53
        refine (CI.out _).mono ?_
        rintro e w' ⟨rfl, rfl⟩
        go_wp2_with fail
        refine hK.out _ _ (trivial) (fun hHeld => ?_)
        clear hK K
        try simp only [List.getElem_toArray, List.getElem_cons_succ, List.getElem_cons_zero, Act.put, List.setIfInBounds_toArray, List.set_cons_zero, List.set_cons_succ]
        refine wpAnyH_ready (rs := [14]) (by kernel_rfl) (by simp) ?_
        refine AllReadyH.cons rfl (fun K hK => ?_) AllReadyH.nil
        go_simp
        go_at_call 62
        refine (CT.out _).mono ?_
        rintro e w3 ⟨rfl, hb⟩
        have E3 : Hid (EqB w3 g n N) := (HN.out.drew).later hb
        have B3 : Hid (Below g w w3) := (HB.out.drew).trans (hb.mono (Nat.le_of_lt HN.out.lt))
        clear hb
        have q0 : w3.cell? ⟨g, c * 12, none⟩ = some (.int .i64 (N c 0)) := E3.out.cell (r := c) (k := 0) hc (by omega)
        have q1 : w3.cell? ⟨g, c * 12 + 1, none⟩ = some (.int .i64 (N c 1)) := E3.out.cell (r := c) (k := 1) hc (by omega)
        have q2 : w3.cell? ⟨g, c * 12 + 2, none⟩ = some (.int .i64 (N c 2)) := E3.out.cell (r := c) (k := 2) hc (by omega)
        have q3 : w3.cell? ⟨g, c * 12 + 3, none⟩ = some (.int .i64 (N c 3)) := E3.out.cell (r := c) (k := 3) hc (by omega)
        have q4 : w3.cell? ⟨g, c * 12 + 4, none⟩ = some (.int .i64 (N c 4)) := E3.out.cell (r := c) (k := 4) hc (by omega)
        have q5 : w3.cell? ⟨g, c * 12 + 5, none⟩ = some (.int .i64 (N c 5)) := E3.out.cell (r := c) (k := 5) hc (by omega)
        have q6 : w3.cell? ⟨g, c * 12 + 6, none⟩ = some (.int .i64 (N c 6)) := E3.out.cell (r := c) (k := 6) hc (by omega)
        have q7 : w3.cell? ⟨g, c * 12 + 7, none⟩ = some (.int .i64 (N c 7)) := E3.out.cell (r := c) (k := 7) hc (by omega)
        have q8 : w3.cell? ⟨g, c * 12 + 8, none⟩ = some (.int .i64 (N c 8)) := E3.out.cell (r := c) (k := 8) hc (by omega)
        have q9 : w3.cell? ⟨g, c * 12 + 9, none⟩ = some (.int .i64 (N c 9)) := E3.out.cell (r := c) (k := 9) hc (by omega)
        have q10 : w3.cell? ⟨g, c * 12 + 10, none⟩ = some (.int .i64 (N c 10)) := E3.out.cell (r := c) (k := 10) hc (by omega)
        have q11 : w3.cell? ⟨g, c * 12 + 11, none⟩ = some (.int .i64 (N c 11)) := E3.out.cell (r := c) (k := 11) hc (by omega)
        have f0 : w3.frozen? ⟨g, c * 12, none⟩ = false := E3.out.frozen (c * 12)
        have f1 : w3.frozen? ⟨g, c * 12 + 1, none⟩ = false := E3.out.frozen (c * 12 + 1)
        have f2 : w3.frozen? ⟨g, c * 12 + 2, none⟩ = false := E3.out.frozen (c * 12 + 2)
        have f3 : w3.frozen? ⟨g, c * 12 + 3, none⟩ = false := E3.out.frozen (c * 12 + 3)
        have f4 : w3.frozen? ⟨g, c * 12 + 4, none⟩ = false := E3.out.frozen (c * 12 + 4)
        have f5 : w3.frozen? ⟨g, c * 12 + 5, none⟩ = false := E3.out.frozen (c * 12 + 5)
        have f6 : w3.frozen? ⟨g, c * 12 + 6, none⟩ = false := E3.out.frozen (c * 12 + 6)
        have f7 : w3.frozen? ⟨g, c * 12 + 7, none⟩ = false := E3.out.frozen (c * 12 + 7)
        have f8 : w3.frozen? ⟨g, c * 12 + 8, none⟩ = false := E3.out.frozen (c * 12 + 8)
        have f9 : w3.frozen? ⟨g, c * 12 + 9, none⟩ = false := E3.out.frozen (c * 12 + 9)
        have f10 : w3.frozen? ⟨g, c * 12 + 10, none⟩ = false := E3.out.frozen (c * 12 + 10)
        have f11 : w3.frozen? ⟨g, c * 12 + 11, none⟩ = false := E3.out.frozen (c * 12 + 11)
        go_wp2_with fail
        refine hK.out _ _ (trivial) (fun hHeld => ?_)
        clear hK K
        try simp only [List.getElem_toArray, List.getElem_cons_succ, List.getElem_cons_zero, Act.put, List.setIfInBounds_toArray, List.set_cons_zero, List.set_cons_succ]
        refine wpAnyH_take (i := 15) (v := ?_) rfl (by kernel_rfl) (by kernel_rfl) (by kernel_rfl) (fun _ _ _ h => h) (Or.inl ⟨by rfl, ?_⟩) (by assumption) ?_
        rotate_left
        · intro w hSw; (try dsimp only at hSw); go_simp; (try (with_reducible rfl))
        try simp only [List.getElem_toArray, List.getElem_cons_succ, List.getElem_cons_zero, Act.put, List.setIfInBounds_toArray, List.set_cons_zero, List.set_cons_succ]
        refine wpAnyH_ready (rs := [16]) (by kernel_rfl) (by simp) ?_
        refine AllReadyH.cons rfl (fun K hK => ?_) AllReadyH.nil
        go_simp
        refine hK.out _ _ (trivial) (fun hHeld => ?_)
        clear hK K
        try simp only [List.getElem_toArray, List.getElem_cons_succ, List.getElem_cons_zero, Act.put, List.setIfInBounds_toArray, List.set_cons_zero, List.set_cons_succ]
        refine wpAnyH_done (by kernel_rfl) ?_ _
        have E4 : Hid (EqB ((((((((((((w3.setCell ⟨g, c * 12, none⟩ (.int .i64 (P 0))).setCell ⟨g, c * 12 + 1, none⟩ (.int .i64 (P 1))).setCell ⟨g, c * 12 + 2, none⟩ (.int .i64 (P 2))).setCell ⟨g, c * 12 + 3, none⟩ (.int .i64 (P 3))).setCell ⟨g, c * 12 + 4, none⟩ (.int .i64 (P 4))).setCell ⟨g, c * 12 + 5, none⟩ (.int .i64 (P 5))).setCell ⟨g, c * 12 + 6, none⟩ (.int .i64 (P 6))).setCell ⟨g, c * 12 + 7, none⟩ (.int .i64 (P 7))).setCell ⟨g, c * 12 + 8, none⟩ (.int .i64 (P 8))).setCell ⟨g, c * 12 + 9, none⟩ (.int .i64 (P 9))).setCell ⟨g, c * 12 + 10, none⟩ (.int .i64 (P 10))).setCell ⟨g, c * 12 + 11, none⟩ (.int .i64 (P 11))) g n (prtF c N 0)) := (E3.out.row hc P).congr (fun r k _ _ => by
          unfold prtF
          by_cases e : r = c
          · rw [if_pos e, if_pos e, HP.out]
          · rw [if_neg e, if_neg e, if_neg (by omega)])
        have B4 : Hid (Below g w ((((((((((((w3.setCell ⟨g, c * 12, none⟩ (.int .i64 (P 0))).setCell ⟨g, c * 12 + 1, none⟩ (.int .i64 (P 1))).setCell ⟨g, c * 12 + 2, none⟩ (.int .i64 (P 2))).setCell ⟨g, c * 12 + 3, none⟩ (.int .i64 (P 3))).setCell ⟨g, c * 12 + 4, none⟩ (.int .i64 (P 4))).setCell ⟨g, c * 12 + 5, none⟩ (.int .i64 (P 5))).setCell ⟨g, c * 12 + 6, none⟩ (.int .i64 (P 6))).setCell ⟨g, c * 12 + 7, none⟩ (.int .i64 (P 7))).setCell ⟨g, c * 12 + 8, none⟩ (.int .i64 (P 8))).setCell ⟨g, c * 12 + 9, none⟩ (.int .i64 (P 9))).setCell ⟨g, c * 12 + 10, none⟩ (.int .i64 (P 10))).setCell ⟨g, c * 12 + 11, none⟩ (.int .i64 (P 11)))) := row_below B3.out c P
        clear E3 B3
        clear q0 q1 q2 q3 q4 q5 q6 q7 q8 q9 q10 q11 f0 f1 f2 f3 f4 f5 f6 f7 f8 f9 f10 f11 x0 x1 x2 x3 x4 x5 x6 x7 x8 x9 x10 x11
        generalize ((((((((((((w3.setCell ⟨g, c * 12, none⟩ (.int .i64 (P 0))).setCell ⟨g, c * 12 + 1, none⟩ (.int .i64 (P 1))).setCell ⟨g, c * 12 + 2, none⟩ (.int .i64 (P 2))).setCell ⟨g, c * 12 + 3, none⟩ (.int .i64 (P 3))).setCell ⟨g, c * 12 + 4, none⟩ (.int .i64 (P 4))).setCell ⟨g, c * 12 + 5, none⟩ (.int .i64 (P 5))).setCell ⟨g, c * 12 + 6, none⟩ (.int .i64 (P 6))).setCell ⟨g, c * 12 + 7, none⟩ (.int .i64 (P 7))).setCell ⟨g, c * 12 + 8, none⟩ (.int .i64 (P 8))).setCell ⟨g, c * 12 + 9, none⟩ (.int .i64 (P 9))).setCell ⟨g, c * 12 + 10, none⟩ (.int .i64 (P 10))).setCell ⟨g, c * 12 + 11, none⟩ (.int .i64 (P 11))) = w4 at *
        go_wp2
        go_loopw [27] (fun i wr => ∃ r : Nat, r ≤ n ∧ i = .int .i64 r ∧ Hid (EqB wr g n (prtF c N r)) ∧ Hid (Below g w wr)) (fun i _ => n - (intOf i).toNat)
        case atStart => exact ⟨0, Nat.zero_le _, rfl, E4.out, B4.out⟩
        case round =>
          clear E4 B4
          obtain ⟨r, hrn, rfl, HE, HB2⟩ := hrel
          by_cases hr : r < n
          · have hrI : (r : Int) < (n : Int) := by omega
            have hr4 : (r : Int) < 4 := by omega
            by_cases hrc : r = c
            · have hd : ((r : Int) != (c : Int)) = false := by simp; omega
              have E7 : Hid (EqB wr g n (prtF c N (r + 1))) := HE.out.congr (fun r' k _ _ => by
                unfold prtF
                by_cases e : r' = c
                · rw [if_pos e, if_pos e]
                · rw [if_neg e, if_neg e]
                  by_cases e3 : r' < r
                  · rw [if_pos e3, if_pos (by omega)]
                  · rw [if_neg e3, if_neg (by omega)])
              clear hrc
              go_wp2
              go_roundw
              case rel => exact ⟨r + 1, by omega, by go_num, E7.out, HB2.out⟩
              case measure => simp [intOf]; omega
            · have hd : ((r : Int) != (c : Int)) = true := by simp; omega
              obtain ⟨Z, hZ⟩ : ∃ Z, (fun k => (N r k - P k * N r c % 65537) % 65537) = Z := ⟨_, rfl⟩
              have HZ : Hid (∀ k, Z k = (N r k - N c k * invT (N c c) % 65537 * N r c % 65537) % 65537) := fun k => by rw [← hZ]; show (N r k - P k * N r c % 65537) % 65537 = _; rw [HP.out]
              have CT2 : Hid (∀ W, Calls Tryd.prog 62 #[.agg (eRow P), .int .i64 (N r c)] W fun e w' => e = .returned (.agg (eRow (fun k => P k * N r c % 65537))) ∧ Below W.heap.size W w') := fun W => times_any P (N r c) W HPB.out (HNB.out r c)
              have CM : Hid (∀ W, Calls Tryd.prog 63 #[.agg (eRow (fun k => N r k)), .agg (eRow (fun k => P k * N r c % 65537))] W fun e w' => e = .returned (.agg (eRow Z)) ∧ Below W.heap.size W w') := fun W => by
                rw [← hZ]; exact minus_any (fun k => N r k) (fun k => P k * N r c % 65537) W (fun k => HNB.out r k) (fun k => emod_bd _)
              have KEEP : Hid (∀ (W : World) {R : Nat}, EqB W g n (prtF c N R) → W.cell? ⟨g, c * 12, none⟩ = some (.int .i64 (P 0)) ∧ W.cell? ⟨g, c * 12 + 1, none⟩ = some (.int .i64 (P 1)) ∧ W.cell? ⟨g, c * 12 + 2, none⟩ = some (.int .i64 (P 2)) ∧ W.cell? ⟨g, c * 12 + 3, none⟩ = some (.int .i64 (P 3)) ∧ W.cell? ⟨g, c * 12 + 4, none⟩ = some (.int .i64 (P 4)) ∧ W.cell? ⟨g, c * 12 + 5, none⟩ = some (.int .i64 (P 5)) ∧ W.cell? ⟨g, c * 12 + 6, none⟩ = some (.int .i64 (P 6)) ∧ W.cell? ⟨g, c * 12 + 7, none⟩ = some (.int .i64 (P 7)) ∧ W.cell? ⟨g, c * 12 + 8, none⟩ = some (.int .i64 (P 8)) ∧ W.cell? ⟨g, c * 12 + 9, none⟩ = some (.int .i64 (P 9)) ∧ W.cell? ⟨g, c * 12 + 10, none⟩ = some (.int .i64 (P 10)) ∧ W.cell? ⟨g, c * 12 + 11, none⟩ = some (.int .i64 (P 11))) := fun W R h => ⟨(h.cell hc (show 0 < 12 by omega)).trans (by rw [prtF_c, HP.out]), (h.cell hc (show 1 < 12 by omega)).trans (by rw [prtF_c, HP.out]), (h.cell hc (show 2 < 12 by omega)).trans (by rw [prtF_c, HP.out]), (h.cell hc (show 3 < 12 by omega)).trans (by rw [prtF_c, HP.out]), (h.cell hc (show 4 < 12 by omega)).trans (by rw [prtF_c, HP.out]), (h.cell hc (show 5 < 12 by omega)).trans (by rw [prtF_c, HP.out]), (h.cell hc (show 6 < 12 by omega)).trans (by rw [prtF_c, HP.out]), (h.cell hc (show 7 < 12 by omega)).trans (by rw [prtF_c, HP.out]), (h.cell hc (show 8 < 12 by omega)).trans (by rw [prtF_c, HP.out]), (h.cell hc (show 9 < 12 by omega)).trans (by rw [prtF_c, HP.out]), (h.cell hc (show 10 < 12 by omega)).trans (by rw [prtF_c, HP.out]), (h.cell hc (show 11 < 12 by omega)).trans (by rw [prtF_c, HP.out])⟩
              have HRC : Hid (∀ W, EqB W g n (prtF c N r) → ∀ k, k < 12 → W.cell? ⟨g, r * 12 + k, none⟩ = some (.int .i64 (N r k))) := fun W h k hk => by rw [h.cell hr hk, prtF_r k hrc]
              have hwt : wr.drew.cell? ⟨g, r * 12 + c, none⟩ = some (.int .i64 (N r c)) := HRC.out wr HE.out c (by omega)
              have x0 : wr.drew.cell? ⟨g, r * 12, none⟩ = some (.int .i64 (N r 0)) := HRC.out wr HE.out 0 (by omega)
              have x1 : wr.drew.cell? ⟨g, r * 12 + 1, none⟩ = some (.int .i64 (N r 1)) := HRC.out wr HE.out 1 (by omega)
              have x2 : wr.drew.cell? ⟨g, r * 12 + 2, none⟩ = some (.int .i64 (N r 2)) := HRC.out wr HE.out 2 (by omega)
              have x3 : wr.drew.cell? ⟨g, r * 12 + 3, none⟩ = some (.int .i64 (N r 3)) := HRC.out wr HE.out 3 (by omega)
              have x4 : wr.drew.cell? ⟨g, r * 12 + 4, none⟩ = some (.int .i64 (N r 4)) := HRC.out wr HE.out 4 (by omega)
              have x5 : wr.drew.cell? ⟨g, r * 12 + 5, none⟩ = some (.int .i64 (N r 5)) := HRC.out wr HE.out 5 (by omega)
              have x6 : wr.drew.cell? ⟨g, r * 12 + 6, none⟩ = some (.int .i64 (N r 6)) := HRC.out wr HE.out 6 (by omega)
              have x7 : wr.drew.cell? ⟨g, r * 12 + 7, none⟩ = some (.int .i64 (N r 7)) := HRC.out wr HE.out 7 (by omega)
              have x8 : wr.drew.cell? ⟨g, r * 12 + 8, none⟩ = some (.int .i64 (N r 8)) := HRC.out wr HE.out 8 (by omega)
              have x9 : wr.drew.cell? ⟨g, r * 12 + 9, none⟩ = some (.int .i64 (N r 9)) := HRC.out wr HE.out 9 (by omega)
              have x10 : wr.drew.cell? ⟨g, r * 12 + 10, none⟩ = some (.int .i64 (N r 10)) := HRC.out wr HE.out 10 (by omega)
              have x11 : wr.drew.cell? ⟨g, r * 12 + 11, none⟩ = some (.int .i64 (N r 11)) := HRC.out wr HE.out 11 (by omega)
              clear hZ
              go_upto_region 8 with fail
              refine wp_region_held_drew (S := (fun W : World => W.cell? ⟨g, c * 12, none⟩ = some (.int .i64 (P 0)) ∧ W.cell? ⟨g, c * 12 + 1, none⟩ = some (.int .i64 (P 1)) ∧ W.cell? ⟨g, c * 12 + 2, none⟩ = some (.int .i64 (P 2)) ∧ W.cell? ⟨g, c * 12 + 3, none⟩ = some (.int .i64 (P 3)) ∧ W.cell? ⟨g, c * 12 + 4, none⟩ = some (.int .i64 (P 4)) ∧ W.cell? ⟨g, c * 12 + 5, none⟩ = some (.int .i64 (P 5)) ∧ W.cell? ⟨g, c * 12 + 6, none⟩ = some (.int .i64 (P 6)) ∧ W.cell? ⟨g, c * 12 + 7, none⟩ = some (.int .i64 (P 7)) ∧ W.cell? ⟨g, c * 12 + 8, none⟩ = some (.int .i64 (P 8)) ∧ W.cell? ⟨g, c * 12 + 9, none⟩ = some (.int .i64 (P 9)) ∧ W.cell? ⟨g, c * 12 + 10, none⟩ = some (.int .i64 (P 10)) ∧ W.cell? ⟨g, c * 12 + 11, none⟩ = some (.int .i64 (P 11)))) (by kernel_rfl) (KEEP.out _ HE.out.drew) ?_
              intro hHeld
              refine wpAnyH_take (i := 0) (v := ?_) rfl (by kernel_rfl) (by kernel_rfl) (by kernel_rfl) (fun _ _ _ h => h) (Or.inl ⟨by rfl, ?_⟩) (by assumption) ?_
              rotate_left
              · intro w hSw; (try dsimp only at hSw); go_simp; (try (with_reducible rfl))
              try simp only [List.getElem_toArray, List.getElem_cons_succ, List.getElem_cons_zero, Act.put, List.setIfInBounds_toArray, List.set_cons_zero, List.set_cons_succ]
              refine wpAnyH_take (i := 1) (v := ?_) rfl (by kernel_rfl) (by kernel_rfl) (by kernel_rfl) (fun _ _ _ h => h) (Or.inl ⟨by rfl, ?_⟩) (by assumption) ?_
              rotate_left
              · intro w hSw; (try dsimp only at hSw); go_simp; (try (with_reducible rfl))
              try simp only [List.getElem_toArray, List.getElem_cons_succ, List.getElem_cons_zero, Act.put, List.setIfInBounds_toArray, List.set_cons_zero, List.set_cons_succ]
              refine wpAnyH_take (i := 2) (v := ?_) rfl (by kernel_rfl) (by kernel_rfl) (by kernel_rfl) (fun _ _ _ h => h) (Or.inl ⟨by rfl, ?_⟩) (by assumption) ?_
              rotate_left
              · intro w hSw; (try dsimp only at hSw); go_simp; (try (with_reducible rfl))
              try simp only [List.getElem_toArray, List.getElem_cons_succ, List.getElem_cons_zero, Act.put, List.setIfInBounds_toArray, List.set_cons_zero, List.set_cons_succ]
              refine wpAnyH_take (i := 3) (v := ?_) rfl (by kernel_rfl) (by kernel_rfl) (by kernel_rfl) (fun _ _ _ h => h) (Or.inl ⟨by rfl, ?_⟩) (by assumption) ?_
              rotate_left
              · intro w hSw; (try dsimp only at hSw); go_simp; (try (with_reducible rfl))
              try simp only [List.getElem_toArray, List.getElem_cons_succ, List.getElem_cons_zero, Act.put, List.setIfInBounds_toArray, List.set_cons_zero, List.set_cons_succ]
              refine wpAnyH_take (i := 4) (v := ?_) rfl (by kernel_rfl) (by kernel_rfl) (by kernel_rfl) (fun _ _ _ h => h) (Or.inl ⟨by rfl, ?_⟩) (by assumption) ?_
              rotate_left
              · intro w hSw; (try dsimp only at hSw); go_simp; (try (with_reducible rfl))
              try simp only [List.getElem_toArray, List.getElem_cons_succ, List.getElem_cons_zero, Act.put, List.setIfInBounds_toArray, List.set_cons_zero, List.set_cons_succ]
              refine wpAnyH_take (i := 6) (v := ?_) rfl (by kernel_rfl) (by kernel_rfl) (by kernel_rfl) (fun _ _ _ h => h) (Or.inl ⟨by rfl, ?_⟩) (by assumption) ?_
              rotate_left
              · intro w hSw; (try dsimp only at hSw); go_simp; (try (with_reducible rfl))
              try simp only [List.getElem_toArray, List.getElem_cons_succ, List.getElem_cons_zero, Act.put, List.setIfInBounds_toArray, List.set_cons_zero, List.set_cons_succ]
              refine wpAnyH_take (i := 7) (v := ?_) rfl (by kernel_rfl) (by kernel_rfl) (by kernel_rfl) (fun _ _ _ h => h) (Or.inl ⟨by rfl, ?_⟩) (by assumption) ?_
              rotate_left
              · intro w hSw; (try dsimp only at hSw); go_simp; (try (with_reducible rfl))
              try simp only [List.getElem_toArray, List.getElem_cons_succ, List.getElem_cons_zero, Act.put, List.setIfInBounds_toArray, List.set_cons_zero, List.set_cons_succ]
              refine wpAnyH_take (i := 8) (v := ?_) rfl (by kernel_rfl) (by kernel_rfl) (by kernel_rfl) (fun _ _ _ h => h) (Or.inl ⟨by rfl, ?_⟩) (by assumption) ?_
              rotate_left
              · intro w hSw; (try dsimp only at hSw); go_simp; (try (with_reducible rfl))
              try simp only [List.getElem_toArray, List.getElem_cons_succ, List.getElem_cons_zero, Act.put, List.setIfInBounds_toArray, List.set_cons_zero, List.set_cons_succ]
              refine wpAnyH_take (i := 9) (v := ?_) rfl (by kernel_rfl) (by kernel_rfl) (by kernel_rfl) (fun _ _ _ h => h) (Or.inl ⟨by rfl, ?_⟩) (by assumption) ?_
              rotate_left
              · intro w hSw; (try dsimp only at hSw); go_simp; (try (with_reducible rfl))
              try simp only [List.getElem_toArray, List.getElem_cons_succ, List.getElem_cons_zero, Act.put, List.setIfInBounds_toArray, List.set_cons_zero, List.set_cons_succ]
              refine wpAnyH_take (i := 10) (v := ?_) rfl (by kernel_rfl) (by kernel_rfl) (by kernel_rfl) (fun _ _ _ h => h) (Or.inl ⟨by rfl, ?_⟩) (by assumption) ?_
              rotate_left
              · intro w hSw; (try dsimp only at hSw); go_simp; (try (with_reducible rfl))
              try simp only [List.getElem_toArray, List.getElem_cons_succ, List.getElem_cons_zero, Act.put, List.setIfInBounds_toArray, List.set_cons_zero, List.set_cons_succ]
              refine wpAnyH_take (i := 11) (v := ?_) rfl (by kernel_rfl) (by kernel_rfl) (by kernel_rfl) (fun _ _ _ h => h) (Or.inl ⟨by rfl, ?_⟩) (by assumption) ?_
              rotate_left
              · intro w hSw; (try dsimp only at hSw); go_simp; (try (with_reducible rfl))
              try simp only [List.getElem_toArray, List.getElem_cons_succ, List.getElem_cons_zero, Act.put, List.setIfInBounds_toArray, List.set_cons_zero, List.set_cons_succ]
              refine wpAnyH_take (i := 12) (v := ?_) rfl (by kernel_rfl) (by kernel_rfl) (by kernel_rfl) (fun _ _ _ h => h) (Or.inl ⟨by rfl, ?_⟩) (by assumption) ?_
              rotate_left
              · intro w hSw; (try dsimp only at hSw); go_simp; (try (with_reducible rfl))
              try simp only [List.getElem_toArray, List.getElem_cons_succ, List.getElem_cons_zero, Act.put, List.setIfInBounds_toArray, List.set_cons_zero, List.set_cons_succ]
              refine wpAnyH_take (i := 13) (v := ?_) rfl (by kernel_rfl) (by kernel_rfl) (by kernel_rfl) (fun _ _ _ h => h) (Or.inl ⟨by rfl, ?_⟩) (by assumption) ?_
              rotate_left
              · intro w hSw; (try dsimp only at hSw); go_simp; (try (with_reducible rfl))
              try simp only [List.getElem_toArray, List.getElem_cons_succ, List.getElem_cons_zero, Act.put, List.setIfInBounds_toArray, List.set_cons_zero, List.set_cons_succ]
              refine wpAnyH_take (i := 14) (v := ?_) rfl (by kernel_rfl) (by kernel_rfl) (by kernel_rfl) (fun _ _ _ h => h) (Or.inl ⟨by rfl, ?_⟩) (by assumption) ?_
              rotate_left
              · intro w hSw; (try dsimp only at hSw); go_simp; (try (with_reducible rfl))
              try simp only [List.getElem_toArray, List.getElem_cons_succ, List.getElem_cons_zero, Act.put, List.setIfInBounds_toArray, List.set_cons_zero, List.set_cons_succ]
              refine wpAnyH_take (i := 15) (v := ?_) rfl (by kernel_rfl) (by kernel_rfl) (by kernel_rfl) (fun _ _ _ h => h) (Or.inl ⟨by rfl, ?_⟩) (by assumption) ?_
              rotate_left
              · intro w hSw; (try dsimp only at hSw); go_simp; (try (with_reducible rfl))
              try simp only [List.getElem_toArray, List.getElem_cons_succ, List.getElem_cons_zero, Act.put, List.setIfInBounds_toArray, List.set_cons_zero, List.set_cons_succ]
              refine wpAnyH_ready (rs := [5, 16]) (by kernel_rfl) (by simp) ?_
              refine AllReadyH.cons rfl (fun K hK => ?_) (AllReadyH.cons rfl (fun K hK => ?_) AllReadyH.nil)
              · go_simp
                refine hK.out _ _ (KEEP.out _ HE.out.drew) (fun hHeld => ?_)
                clear hK K
                try simp only [List.getElem_toArray, List.getElem_cons_succ, List.getElem_cons_zero, Act.put, List.setIfInBounds_toArray, List.set_cons_zero, List.set_cons_succ]
                refine wpAnyH_ready (rs := [16]) (by kernel_rfl) (by simp) ?_
                refine AllReadyH.cons rfl (fun K hK => ?_) AllReadyH.nil
                go_simp
                refine hK.out _ _ (KEEP.out _ HE.out.drew) (fun hHeld => ?_)
                clear hK K
                try simp only [List.getElem_toArray, List.getElem_cons_succ, List.getElem_cons_zero, Act.put, List.setIfInBounds_toArray, List.set_cons_zero, List.set_cons_succ]
                refine wpAnyH_ready (rs := [17]) (by kernel_rfl) (by simp) ?_
                refine AllReadyH.cons rfl (fun K hK => ?_) AllReadyH.nil
                go_simp
                go_at_call 62
                refine (CT2.out _).mono ?_
                rintro e w5 ⟨rfl, hb⟩
                have E5 : Hid (EqB w5 g n (prtF c N r)) := (HE.out.drew).later hb
                have B5 : Hid (Below g w w5) := (HB2.out.drew).trans (hb.mono (Nat.le_of_lt HE.out.lt))
                clear hb
                have q0 : w5.cell? ⟨g, r * 12, none⟩ = some (.int .i64 (N r 0)) := HRC.out _ E5.out 0 (by omega)
                have q1 : w5.cell? ⟨g, r * 12 + 1, none⟩ = some (.int .i64 (N r 1)) := HRC.out _ E5.out 1 (by omega)
                have q2 : w5.cell? ⟨g, r * 12 + 2, none⟩ = some (.int .i64 (N r 2)) := HRC.out _ E5.out 2 (by omega)
                have q3 : w5.cell? ⟨g, r * 12 + 3, none⟩ = some (.int .i64 (N r 3)) := HRC.out _ E5.out 3 (by omega)
                have q4 : w5.cell? ⟨g, r * 12 + 4, none⟩ = some (.int .i64 (N r 4)) := HRC.out _ E5.out 4 (by omega)
                have q5 : w5.cell? ⟨g, r * 12 + 5, none⟩ = some (.int .i64 (N r 5)) := HRC.out _ E5.out 5 (by omega)
                have q6 : w5.cell? ⟨g, r * 12 + 6, none⟩ = some (.int .i64 (N r 6)) := HRC.out _ E5.out 6 (by omega)
                have q7 : w5.cell? ⟨g, r * 12 + 7, none⟩ = some (.int .i64 (N r 7)) := HRC.out _ E5.out 7 (by omega)
                have q8 : w5.cell? ⟨g, r * 12 + 8, none⟩ = some (.int .i64 (N r 8)) := HRC.out _ E5.out 8 (by omega)
                have q9 : w5.cell? ⟨g, r * 12 + 9, none⟩ = some (.int .i64 (N r 9)) := HRC.out _ E5.out 9 (by omega)
                have q10 : w5.cell? ⟨g, r * 12 + 10, none⟩ = some (.int .i64 (N r 10)) := HRC.out _ E5.out 10 (by omega)
                have q11 : w5.cell? ⟨g, r * 12 + 11, none⟩ = some (.int .i64 (N r 11)) := HRC.out _ E5.out 11 (by omega)
                go_wp2_with fail
                refine hK.out _ _ (KEEP.out _ E5.out) (fun hHeld => ?_)
                clear hK K
                try simp only [List.getElem_toArray, List.getElem_cons_succ, List.getElem_cons_zero, Act.put, List.setIfInBounds_toArray, List.set_cons_zero, List.set_cons_succ]
                refine wpAnyH_ready (rs := [18]) (by kernel_rfl) (by simp) ?_
                refine AllReadyH.cons rfl (fun K hK => ?_) AllReadyH.nil
                go_simp
                go_at_call 63
                refine (CM.out _).mono ?_
                rintro e w6 ⟨rfl, hb⟩
                have E6 : Hid (EqB w6 g n (prtF c N r)) := E5.out.later hb
                have B6 : Hid (Below g w w6) := B5.out.trans (hb.mono (Nat.le_of_lt E5.out.lt))
                clear hb
                clear q0 q1 q2 q3 q4 q5 q6 q7 q8 q9 q10 q11 x0 x1 x2 x3 x4 x5 x6 x7 x8 x9 x10 x11
                have q0 : w6.cell? ⟨g, r * 12, none⟩ = some (.int .i64 (N r 0)) := HRC.out _ E6.out 0 (by omega)
                have q1 : w6.cell? ⟨g, r * 12 + 1, none⟩ = some (.int .i64 (N r 1)) := HRC.out _ E6.out 1 (by omega)
                have q2 : w6.cell? ⟨g, r * 12 + 2, none⟩ = some (.int .i64 (N r 2)) := HRC.out _ E6.out 2 (by omega)
                have q3 : w6.cell? ⟨g, r * 12 + 3, none⟩ = some (.int .i64 (N r 3)) := HRC.out _ E6.out 3 (by omega)
                have q4 : w6.cell? ⟨g, r * 12 + 4, none⟩ = some (.int .i64 (N r 4)) := HRC.out _ E6.out 4 (by omega)
                have q5 : w6.cell? ⟨g, r * 12 + 5, none⟩ = some (.int .i64 (N r 5)) := HRC.out _ E6.out 5 (by omega)
                have q6 : w6.cell? ⟨g, r * 12 + 6, none⟩ = some (.int .i64 (N r 6)) := HRC.out _ E6.out 6 (by omega)
                have q7 : w6.cell? ⟨g, r * 12 + 7, none⟩ = some (.int .i64 (N r 7)) := HRC.out _ E6.out 7 (by omega)
                have q8 : w6.cell? ⟨g, r * 12 + 8, none⟩ = some (.int .i64 (N r 8)) := HRC.out _ E6.out 8 (by omega)
                have q9 : w6.cell? ⟨g, r * 12 + 9, none⟩ = some (.int .i64 (N r 9)) := HRC.out _ E6.out 9 (by omega)
                have q10 : w6.cell? ⟨g, r * 12 + 10, none⟩ = some (.int .i64 (N r 10)) := HRC.out _ E6.out 10 (by omega)
                have q11 : w6.cell? ⟨g, r * 12 + 11, none⟩ = some (.int .i64 (N r 11)) := HRC.out _ E6.out 11 (by omega)
                have f0 : w6.frozen? ⟨g, r * 12, none⟩ = false := E6.out.frozen (r * 12)
                have f1 : w6.frozen? ⟨g, r * 12 + 1, none⟩ = false := E6.out.frozen (r * 12 + 1)
                have f2 : w6.frozen? ⟨g, r * 12 + 2, none⟩ = false := E6.out.frozen (r * 12 + 2)
                have f3 : w6.frozen? ⟨g, r * 12 + 3, none⟩ = false := E6.out.frozen (r * 12 + 3)
                have f4 : w6.frozen? ⟨g, r * 12 + 4, none⟩ = false := E6.out.frozen (r * 12 + 4)
                have f5 : w6.frozen? ⟨g, r * 12 + 5, none⟩ = false := E6.out.frozen (r * 12 + 5)
                have f6 : w6.frozen? ⟨g, r * 12 + 6, none⟩ = false := E6.out.frozen (r * 12 + 6)
                have f7 : w6.frozen? ⟨g, r * 12 + 7, none⟩ = false := E6.out.frozen (r * 12 + 7)
                have f8 : w6.frozen? ⟨g, r * 12 + 8, none⟩ = false := E6.out.frozen (r * 12 + 8)
                have f9 : w6.frozen? ⟨g, r * 12 + 9, none⟩ = false := E6.out.frozen (r * 12 + 9)
                have f10 : w6.frozen? ⟨g, r * 12 + 10, none⟩ = false := E6.out.frozen (r * 12 + 10)
                have f11 : w6.frozen? ⟨g, r * 12 + 11, none⟩ = false := E6.out.frozen (r * 12 + 11)
                go_wp2_with fail
                refine hK.out _ _ (KEEP.out _ E6.out) (fun hHeld => ?_)
                clear hK K
                try simp only [List.getElem_toArray, List.getElem_cons_succ, List.getElem_cons_zero, Act.put, List.setIfInBounds_toArray, List.set_cons_zero, List.set_cons_succ]
                refine wpAnyH_take (i := 19) (v := ?_) rfl (by kernel_rfl) (by kernel_rfl) (by kernel_rfl) (fun _ _ _ h => h) (Or.inl ⟨by rfl, ?_⟩) (by assumption) ?_
                rotate_left
                · intro w hSw; (try dsimp only at hSw); go_simp; (try (with_reducible rfl))
                try simp only [List.getElem_toArray, List.getElem_cons_succ, List.getElem_cons_zero, Act.put, List.setIfInBounds_toArray, List.set_cons_zero, List.set_cons_succ]
                refine wpAnyH_ready (rs := [20]) (by kernel_rfl) (by simp) ?_
                refine AllReadyH.cons rfl (fun K hK => ?_) AllReadyH.nil
                go_simp
                have E7 : Hid (EqB ((((((((((((w6.setCell ⟨g, r * 12, none⟩ (.int .i64 (Z 0))).setCell ⟨g, r * 12 + 1, none⟩ (.int .i64 (Z 1))).setCell ⟨g, r * 12 + 2, none⟩ (.int .i64 (Z 2))).setCell ⟨g, r * 12 + 3, none⟩ (.int .i64 (Z 3))).setCell ⟨g, r * 12 + 4, none⟩ (.int .i64 (Z 4))).setCell ⟨g, r * 12 + 5, none⟩ (.int .i64 (Z 5))).setCell ⟨g, r * 12 + 6, none⟩ (.int .i64 (Z 6))).setCell ⟨g, r * 12 + 7, none⟩ (.int .i64 (Z 7))).setCell ⟨g, r * 12 + 8, none⟩ (.int .i64 (Z 8))).setCell ⟨g, r * 12 + 9, none⟩ (.int .i64 (Z 9))).setCell ⟨g, r * 12 + 10, none⟩ (.int .i64 (Z 10))).setCell ⟨g, r * 12 + 11, none⟩ (.int .i64 (Z 11))) g n (prtF c N (r + 1))) := (E6.out.row hr Z).congr (fun r' k _ _ => by
                  unfold prtF
                  by_cases e : r' = r
                  · subst e; rw [if_pos rfl, if_neg hrc, if_pos (by omega), HZ.out]
                  · rw [if_neg e]
                    by_cases e2 : r' = c
                    · rw [if_pos e2, if_pos e2]
                    · rw [if_neg e2, if_neg e2]
                      by_cases e3 : r' < r
                      · rw [if_pos e3, if_pos (by omega)]
                      · rw [if_neg e3, if_neg (by omega)])
                have B7 : Hid (Below g w ((((((((((((w6.setCell ⟨g, r * 12, none⟩ (.int .i64 (Z 0))).setCell ⟨g, r * 12 + 1, none⟩ (.int .i64 (Z 1))).setCell ⟨g, r * 12 + 2, none⟩ (.int .i64 (Z 2))).setCell ⟨g, r * 12 + 3, none⟩ (.int .i64 (Z 3))).setCell ⟨g, r * 12 + 4, none⟩ (.int .i64 (Z 4))).setCell ⟨g, r * 12 + 5, none⟩ (.int .i64 (Z 5))).setCell ⟨g, r * 12 + 6, none⟩ (.int .i64 (Z 6))).setCell ⟨g, r * 12 + 7, none⟩ (.int .i64 (Z 7))).setCell ⟨g, r * 12 + 8, none⟩ (.int .i64 (Z 8))).setCell ⟨g, r * 12 + 9, none⟩ (.int .i64 (Z 9))).setCell ⟨g, r * 12 + 10, none⟩ (.int .i64 (Z 10))).setCell ⟨g, r * 12 + 11, none⟩ (.int .i64 (Z 11)))) := row_below B6.out r Z
                refine hK.out _ _ (KEEP.out _ E7.out) (fun hHeld => ?_)
                clear hK K
                try simp only [List.getElem_toArray, List.getElem_cons_succ, List.getElem_cons_zero, Act.put, List.setIfInBounds_toArray, List.set_cons_zero, List.set_cons_succ]
                refine wpAnyH_done (by kernel_rfl) ?_ _
                clear E6 B6 E5 B5
                clear q0 q1 q2 q3 q4 q5 q6 q7 q8 q9 q10 q11 f0 f1 f2 f3 f4 f5 f6 f7 f8 f9 f10 f11 hHeld
                generalize ((((((((((((w6.setCell ⟨g, r * 12, none⟩ (.int .i64 (Z 0))).setCell ⟨g, r * 12 + 1, none⟩ (.int .i64 (Z 1))).setCell ⟨g, r * 12 + 2, none⟩ (.int .i64 (Z 2))).setCell ⟨g, r * 12 + 3, none⟩ (.int .i64 (Z 3))).setCell ⟨g, r * 12 + 4, none⟩ (.int .i64 (Z 4))).setCell ⟨g, r * 12 + 5, none⟩ (.int .i64 (Z 5))).setCell ⟨g, r * 12 + 6, none⟩ (.int .i64 (Z 6))).setCell ⟨g, r * 12 + 7, none⟩ (.int .i64 (Z 7))).setCell ⟨g, r * 12 + 8, none⟩ (.int .i64 (Z 8))).setCell ⟨g, r * 12 + 9, none⟩ (.int .i64 (Z 9))).setCell ⟨g, r * 12 + 10, none⟩ (.int .i64 (Z 10))).setCell ⟨g, r * 12 + 11, none⟩ (.int .i64 (Z 11))) = w7 at *
                go_wp2
                go_roundw
                case rel => exact ⟨r + 1, by omega, by go_num, E7.out, B7.out⟩
                case measure => simp [intOf]; omega
              · go_simp
                refine hK.out _ _ (KEEP.out _ HE.out.drew) (fun hHeld => ?_)
                clear hK K
                try simp only [List.getElem_toArray, List.getElem_cons_succ, List.getElem_cons_zero, Act.put, List.setIfInBounds_toArray, List.set_cons_zero, List.set_cons_succ]
                refine wpAnyH_ready (rs := [5, 17]) (by kernel_rfl) (by simp) ?_
                refine AllReadyH.cons rfl (fun K hK => ?_) (AllReadyH.cons rfl (fun K hK => ?_) AllReadyH.nil)
                · go_simp
                  refine hK.out _ _ (KEEP.out _ HE.out.drew) (fun hHeld => ?_)
                  clear hK K
                  try simp only [List.getElem_toArray, List.getElem_cons_succ, List.getElem_cons_zero, Act.put, List.setIfInBounds_toArray, List.set_cons_zero, List.set_cons_succ]
                  refine wpAnyH_ready (rs := [17]) (by kernel_rfl) (by simp) ?_
                  refine AllReadyH.cons rfl (fun K hK => ?_) AllReadyH.nil
                  go_simp
                  go_at_call 62
                  refine (CT2.out _).mono ?_
                  rintro e w5 ⟨rfl, hb⟩
                  have E5 : Hid (EqB w5 g n (prtF c N r)) := (HE.out.drew).later hb
                  have B5 : Hid (Below g w w5) := (HB2.out.drew).trans (hb.mono (Nat.le_of_lt HE.out.lt))
                  clear hb
                  have q0 : w5.cell? ⟨g, r * 12, none⟩ = some (.int .i64 (N r 0)) := HRC.out _ E5.out 0 (by omega)
                  have q1 : w5.cell? ⟨g, r * 12 + 1, none⟩ = some (.int .i64 (N r 1)) := HRC.out _ E5.out 1 (by omega)
                  have q2 : w5.cell? ⟨g, r * 12 + 2, none⟩ = some (.int .i64 (N r 2)) := HRC.out _ E5.out 2 (by omega)
                  have q3 : w5.cell? ⟨g, r * 12 + 3, none⟩ = some (.int .i64 (N r 3)) := HRC.out _ E5.out 3 (by omega)
                  have q4 : w5.cell? ⟨g, r * 12 + 4, none⟩ = some (.int .i64 (N r 4)) := HRC.out _ E5.out 4 (by omega)
                  have q5 : w5.cell? ⟨g, r * 12 + 5, none⟩ = some (.int .i64 (N r 5)) := HRC.out _ E5.out 5 (by omega)
                  have q6 : w5.cell? ⟨g, r * 12 + 6, none⟩ = some (.int .i64 (N r 6)) := HRC.out _ E5.out 6 (by omega)
                  have q7 : w5.cell? ⟨g, r * 12 + 7, none⟩ = some (.int .i64 (N r 7)) := HRC.out _ E5.out 7 (by omega)
                  have q8 : w5.cell? ⟨g, r * 12 + 8, none⟩ = some (.int .i64 (N r 8)) := HRC.out _ E5.out 8 (by omega)
                  have q9 : w5.cell? ⟨g, r * 12 + 9, none⟩ = some (.int .i64 (N r 9)) := HRC.out _ E5.out 9 (by omega)
                  have q10 : w5.cell? ⟨g, r * 12 + 10, none⟩ = some (.int .i64 (N r 10)) := HRC.out _ E5.out 10 (by omega)
                  have q11 : w5.cell? ⟨g, r * 12 + 11, none⟩ = some (.int .i64 (N r 11)) := HRC.out _ E5.out 11 (by omega)
                  go_wp2_with fail
                  refine hK.out _ _ (KEEP.out _ E5.out) (fun hHeld => ?_)
                  clear hK K
                  try simp only [List.getElem_toArray, List.getElem_cons_succ, List.getElem_cons_zero, Act.put, List.setIfInBounds_toArray, List.set_cons_zero, List.set_cons_succ]
                  refine wpAnyH_ready (rs := [18]) (by kernel_rfl) (by simp) ?_
                  refine AllReadyH.cons rfl (fun K hK => ?_) AllReadyH.nil
                  go_simp
                  go_at_call 63
                  refine (CM.out _).mono ?_
                  rintro e w6 ⟨rfl, hb⟩
                  have E6 : Hid (EqB w6 g n (prtF c N r)) := E5.out.later hb
                  have B6 : Hid (Below g w w6) := B5.out.trans (hb.mono (Nat.le_of_lt E5.out.lt))
                  clear hb
                  clear q0 q1 q2 q3 q4 q5 q6 q7 q8 q9 q10 q11 x0 x1 x2 x3 x4 x5 x6 x7 x8 x9 x10 x11
                  have q0 : w6.cell? ⟨g, r * 12, none⟩ = some (.int .i64 (N r 0)) := HRC.out _ E6.out 0 (by omega)
                  have q1 : w6.cell? ⟨g, r * 12 + 1, none⟩ = some (.int .i64 (N r 1)) := HRC.out _ E6.out 1 (by omega)
                  have q2 : w6.cell? ⟨g, r * 12 + 2, none⟩ = some (.int .i64 (N r 2)) := HRC.out _ E6.out 2 (by omega)
                  have q3 : w6.cell? ⟨g, r * 12 + 3, none⟩ = some (.int .i64 (N r 3)) := HRC.out _ E6.out 3 (by omega)
                  have q4 : w6.cell? ⟨g, r * 12 + 4, none⟩ = some (.int .i64 (N r 4)) := HRC.out _ E6.out 4 (by omega)
                  have q5 : w6.cell? ⟨g, r * 12 + 5, none⟩ = some (.int .i64 (N r 5)) := HRC.out _ E6.out 5 (by omega)
                  have q6 : w6.cell? ⟨g, r * 12 + 6, none⟩ = some (.int .i64 (N r 6)) := HRC.out _ E6.out 6 (by omega)
                  have q7 : w6.cell? ⟨g, r * 12 + 7, none⟩ = some (.int .i64 (N r 7)) := HRC.out _ E6.out 7 (by omega)
                  have q8 : w6.cell? ⟨g, r * 12 + 8, none⟩ = some (.int .i64 (N r 8)) := HRC.out _ E6.out 8 (by omega)
                  have q9 : w6.cell? ⟨g, r * 12 + 9, none⟩ = some (.int .i64 (N r 9)) := HRC.out _ E6.out 9 (by omega)
                  have q10 : w6.cell? ⟨g, r * 12 + 10, none⟩ = some (.int .i64 (N r 10)) := HRC.out _ E6.out 10 (by omega)
                  have q11 : w6.cell? ⟨g, r * 12 + 11, none⟩ = some (.int .i64 (N r 11)) := HRC.out _ E6.out 11 (by omega)
                  have f0 : w6.frozen? ⟨g, r * 12, none⟩ = false := E6.out.frozen (r * 12)
                  have f1 : w6.frozen? ⟨g, r * 12 + 1, none⟩ = false := E6.out.frozen (r * 12 + 1)
                  have f2 : w6.frozen? ⟨g, r * 12 + 2, none⟩ = false := E6.out.frozen (r * 12 + 2)
                  have f3 : w6.frozen? ⟨g, r * 12 + 3, none⟩ = false := E6.out.frozen (r * 12 + 3)
                  have f4 : w6.frozen? ⟨g, r * 12 + 4, none⟩ = false := E6.out.frozen (r * 12 + 4)
                  have f5 : w6.frozen? ⟨g, r * 12 + 5, none⟩ = false := E6.out.frozen (r * 12 + 5)
                  have f6 : w6.frozen? ⟨g, r * 12 + 6, none⟩ = false := E6.out.frozen (r * 12 + 6)
                  have f7 : w6.frozen? ⟨g, r * 12 + 7, none⟩ = false := E6.out.frozen (r * 12 + 7)
                  have f8 : w6.frozen? ⟨g, r * 12 + 8, none⟩ = false := E6.out.frozen (r * 12 + 8)
                  have f9 : w6.frozen? ⟨g, r * 12 + 9, none⟩ = false := E6.out.frozen (r * 12 + 9)
                  have f10 : w6.frozen? ⟨g, r * 12 + 10, none⟩ = false := E6.out.frozen (r * 12 + 10)
                  have f11 : w6.frozen? ⟨g, r * 12 + 11, none⟩ = false := E6.out.frozen (r * 12 + 11)
                  go_wp2_with fail
                  refine hK.out _ _ (KEEP.out _ E6.out) (fun hHeld => ?_)
                  clear hK K
                  try simp only [List.getElem_toArray, List.getElem_cons_succ, List.getElem_cons_zero, Act.put, List.setIfInBounds_toArray, List.set_cons_zero, List.set_cons_succ]
                  refine wpAnyH_take (i := 19) (v := ?_) rfl (by kernel_rfl) (by kernel_rfl) (by kernel_rfl) (fun _ _ _ h => h) (Or.inl ⟨by rfl, ?_⟩) (by assumption) ?_
                  rotate_left
                  · intro w hSw; (try dsimp only at hSw); go_simp; (try (with_reducible rfl))
                  try simp only [List.getElem_toArray, List.getElem_cons_succ, List.getElem_cons_zero, Act.put, List.setIfInBounds_toArray, List.set_cons_zero, List.set_cons_succ]
                  refine wpAnyH_ready (rs := [20]) (by kernel_rfl) (by simp) ?_
                  refine AllReadyH.cons rfl (fun K hK => ?_) AllReadyH.nil
                  go_simp
                  have E7 : Hid (EqB ((((((((((((w6.setCell ⟨g, r * 12, none⟩ (.int .i64 (Z 0))).setCell ⟨g, r * 12 + 1, none⟩ (.int .i64 (Z 1))).setCell ⟨g, r * 12 + 2, none⟩ (.int .i64 (Z 2))).setCell ⟨g, r * 12 + 3, none⟩ (.int .i64 (Z 3))).setCell ⟨g, r * 12 + 4, none⟩ (.int .i64 (Z 4))).setCell ⟨g, r * 12 + 5, none⟩ (.int .i64 (Z 5))).setCell ⟨g, r * 12 + 6, none⟩ (.int .i64 (Z 6))).setCell ⟨g, r * 12 + 7, none⟩ (.int .i64 (Z 7))).setCell ⟨g, r * 12 + 8, none⟩ (.int .i64 (Z 8))).setCell ⟨g, r * 12 + 9, none⟩ (.int .i64 (Z 9))).setCell ⟨g, r * 12 + 10, none⟩ (.int .i64 (Z 10))).setCell ⟨g, r * 12 + 11, none⟩ (.int .i64 (Z 11))) g n (prtF c N (r + 1))) := (E6.out.row hr Z).congr (fun r' k _ _ => by
                    unfold prtF
                    by_cases e : r' = r
                    · subst e; rw [if_pos rfl, if_neg hrc, if_pos (by omega), HZ.out]
                    · rw [if_neg e]
                      by_cases e2 : r' = c
                      · rw [if_pos e2, if_pos e2]
                      · rw [if_neg e2, if_neg e2]
                        by_cases e3 : r' < r
                        · rw [if_pos e3, if_pos (by omega)]
                        · rw [if_neg e3, if_neg (by omega)])
                  have B7 : Hid (Below g w ((((((((((((w6.setCell ⟨g, r * 12, none⟩ (.int .i64 (Z 0))).setCell ⟨g, r * 12 + 1, none⟩ (.int .i64 (Z 1))).setCell ⟨g, r * 12 + 2, none⟩ (.int .i64 (Z 2))).setCell ⟨g, r * 12 + 3, none⟩ (.int .i64 (Z 3))).setCell ⟨g, r * 12 + 4, none⟩ (.int .i64 (Z 4))).setCell ⟨g, r * 12 + 5, none⟩ (.int .i64 (Z 5))).setCell ⟨g, r * 12 + 6, none⟩ (.int .i64 (Z 6))).setCell ⟨g, r * 12 + 7, none⟩ (.int .i64 (Z 7))).setCell ⟨g, r * 12 + 8, none⟩ (.int .i64 (Z 8))).setCell ⟨g, r * 12 + 9, none⟩ (.int .i64 (Z 9))).setCell ⟨g, r * 12 + 10, none⟩ (.int .i64 (Z 10))).setCell ⟨g, r * 12 + 11, none⟩ (.int .i64 (Z 11)))) := row_below B6.out r Z
                  refine hK.out _ _ (KEEP.out _ E7.out) (fun hHeld => ?_)
                  clear hK K
                  try simp only [List.getElem_toArray, List.getElem_cons_succ, List.getElem_cons_zero, Act.put, List.setIfInBounds_toArray, List.set_cons_zero, List.set_cons_succ]
                  refine wpAnyH_done (by kernel_rfl) ?_ _
                  clear E6 B6 E5 B5
                  clear q0 q1 q2 q3 q4 q5 q6 q7 q8 q9 q10 q11 f0 f1 f2 f3 f4 f5 f6 f7 f8 f9 f10 f11 hHeld
                  generalize ((((((((((((w6.setCell ⟨g, r * 12, none⟩ (.int .i64 (Z 0))).setCell ⟨g, r * 12 + 1, none⟩ (.int .i64 (Z 1))).setCell ⟨g, r * 12 + 2, none⟩ (.int .i64 (Z 2))).setCell ⟨g, r * 12 + 3, none⟩ (.int .i64 (Z 3))).setCell ⟨g, r * 12 + 4, none⟩ (.int .i64 (Z 4))).setCell ⟨g, r * 12 + 5, none⟩ (.int .i64 (Z 5))).setCell ⟨g, r * 12 + 6, none⟩ (.int .i64 (Z 6))).setCell ⟨g, r * 12 + 7, none⟩ (.int .i64 (Z 7))).setCell ⟨g, r * 12 + 8, none⟩ (.int .i64 (Z 8))).setCell ⟨g, r * 12 + 9, none⟩ (.int .i64 (Z 9))).setCell ⟨g, r * 12 + 10, none⟩ (.int .i64 (Z 10))).setCell ⟨g, r * 12 + 11, none⟩ (.int .i64 (Z 11))) = w7 at *
                  go_wp2
                  go_roundw
                  case rel => exact ⟨r + 1, by omega, by go_num, E7.out, B7.out⟩
                  case measure => simp [intOf]; omega
                · go_simp
                  go_at_call 62
                  refine (CT2.out _).mono ?_
                  rintro e w5 ⟨rfl, hb⟩
                  have E5 : Hid (EqB w5 g n (prtF c N r)) := (HE.out.drew).later hb
                  have B5 : Hid (Below g w w5) := (HB2.out.drew).trans (hb.mono (Nat.le_of_lt HE.out.lt))
                  clear hb
                  have q0 : w5.cell? ⟨g, r * 12, none⟩ = some (.int .i64 (N r 0)) := HRC.out _ E5.out 0 (by omega)
                  have q1 : w5.cell? ⟨g, r * 12 + 1, none⟩ = some (.int .i64 (N r 1)) := HRC.out _ E5.out 1 (by omega)
                  have q2 : w5.cell? ⟨g, r * 12 + 2, none⟩ = some (.int .i64 (N r 2)) := HRC.out _ E5.out 2 (by omega)
                  have q3 : w5.cell? ⟨g, r * 12 + 3, none⟩ = some (.int .i64 (N r 3)) := HRC.out _ E5.out 3 (by omega)
                  have q4 : w5.cell? ⟨g, r * 12 + 4, none⟩ = some (.int .i64 (N r 4)) := HRC.out _ E5.out 4 (by omega)
                  have q5 : w5.cell? ⟨g, r * 12 + 5, none⟩ = some (.int .i64 (N r 5)) := HRC.out _ E5.out 5 (by omega)
                  have q6 : w5.cell? ⟨g, r * 12 + 6, none⟩ = some (.int .i64 (N r 6)) := HRC.out _ E5.out 6 (by omega)
                  have q7 : w5.cell? ⟨g, r * 12 + 7, none⟩ = some (.int .i64 (N r 7)) := HRC.out _ E5.out 7 (by omega)
                  have q8 : w5.cell? ⟨g, r * 12 + 8, none⟩ = some (.int .i64 (N r 8)) := HRC.out _ E5.out 8 (by omega)
                  have q9 : w5.cell? ⟨g, r * 12 + 9, none⟩ = some (.int .i64 (N r 9)) := HRC.out _ E5.out 9 (by omega)
                  have q10 : w5.cell? ⟨g, r * 12 + 10, none⟩ = some (.int .i64 (N r 10)) := HRC.out _ E5.out 10 (by omega)
                  have q11 : w5.cell? ⟨g, r * 12 + 11, none⟩ = some (.int .i64 (N r 11)) := HRC.out _ E5.out 11 (by omega)
                  go_wp2_with fail
                  refine hK.out _ _ (KEEP.out _ E5.out) (fun hHeld => ?_)
                  clear hK K
                  try simp only [List.getElem_toArray, List.getElem_cons_succ, List.getElem_cons_zero, Act.put, List.setIfInBounds_toArray, List.set_cons_zero, List.set_cons_succ]
                  refine wpAnyH_ready (rs := [5]) (by kernel_rfl) (by simp) ?_
                  refine AllReadyH.cons rfl (fun K hK => ?_) AllReadyH.nil
                  go_simp
                  refine hK.out _ _ (KEEP.out _ E5.out) (fun hHeld => ?_)
                  clear hK K
                  try simp only [List.getElem_toArray, List.getElem_cons_succ, List.getElem_cons_zero, Act.put, List.setIfInBounds_toArray, List.set_cons_zero, List.set_cons_succ]
                  refine wpAnyH_ready (rs := [18]) (by kernel_rfl) (by simp) ?_
                  refine AllReadyH.cons rfl (fun K hK => ?_) AllReadyH.nil
                  go_simp
                  go_at_call 63
                  refine (CM.out _).mono ?_
                  rintro e w6 ⟨rfl, hb⟩
                  have E6 : Hid (EqB w6 g n (prtF c N r)) := E5.out.later hb
                  have B6 : Hid (Below g w w6) := B5.out.trans (hb.mono (Nat.le_of_lt E5.out.lt))
                  clear hb
                  clear q0 q1 q2 q3 q4 q5 q6 q7 q8 q9 q10 q11 x0 x1 x2 x3 x4 x5 x6 x7 x8 x9 x10 x11
                  have q0 : w6.cell? ⟨g, r * 12, none⟩ = some (.int .i64 (N r 0)) := HRC.out _ E6.out 0 (by omega)
                  have q1 : w6.cell? ⟨g, r * 12 + 1, none⟩ = some (.int .i64 (N r 1)) := HRC.out _ E6.out 1 (by omega)
                  have q2 : w6.cell? ⟨g, r * 12 + 2, none⟩ = some (.int .i64 (N r 2)) := HRC.out _ E6.out 2 (by omega)
                  have q3 : w6.cell? ⟨g, r * 12 + 3, none⟩ = some (.int .i64 (N r 3)) := HRC.out _ E6.out 3 (by omega)
                  have q4 : w6.cell? ⟨g, r * 12 + 4, none⟩ = some (.int .i64 (N r 4)) := HRC.out _ E6.out 4 (by omega)
                  have q5 : w6.cell? ⟨g, r * 12 + 5, none⟩ = some (.int .i64 (N r 5)) := HRC.out _ E6.out 5 (by omega)
                  have q6 : w6.cell? ⟨g, r * 12 + 6, none⟩ = some (.int .i64 (N r 6)) := HRC.out _ E6.out 6 (by omega)
                  have q7 : w6.cell? ⟨g, r * 12 + 7, none⟩ = some (.int .i64 (N r 7)) := HRC.out _ E6.out 7 (by omega)
                  have q8 : w6.cell? ⟨g, r * 12 + 8, none⟩ = some (.int .i64 (N r 8)) := HRC.out _ E6.out 8 (by omega)
                  have q9 : w6.cell? ⟨g, r * 12 + 9, none⟩ = some (.int .i64 (N r 9)) := HRC.out _ E6.out 9 (by omega)
                  have q10 : w6.cell? ⟨g, r * 12 + 10, none⟩ = some (.int .i64 (N r 10)) := HRC.out _ E6.out 10 (by omega)
                  have q11 : w6.cell? ⟨g, r * 12 + 11, none⟩ = some (.int .i64 (N r 11)) := HRC.out _ E6.out 11 (by omega)
                  have f0 : w6.frozen? ⟨g, r * 12, none⟩ = false := E6.out.frozen (r * 12)
                  have f1 : w6.frozen? ⟨g, r * 12 + 1, none⟩ = false := E6.out.frozen (r * 12 + 1)
                  have f2 : w6.frozen? ⟨g, r * 12 + 2, none⟩ = false := E6.out.frozen (r * 12 + 2)
                  have f3 : w6.frozen? ⟨g, r * 12 + 3, none⟩ = false := E6.out.frozen (r * 12 + 3)
                  have f4 : w6.frozen? ⟨g, r * 12 + 4, none⟩ = false := E6.out.frozen (r * 12 + 4)
                  have f5 : w6.frozen? ⟨g, r * 12 + 5, none⟩ = false := E6.out.frozen (r * 12 + 5)
                  have f6 : w6.frozen? ⟨g, r * 12 + 6, none⟩ = false := E6.out.frozen (r * 12 + 6)
                  have f7 : w6.frozen? ⟨g, r * 12 + 7, none⟩ = false := E6.out.frozen (r * 12 + 7)
                  have f8 : w6.frozen? ⟨g, r * 12 + 8, none⟩ = false := E6.out.frozen (r * 12 + 8)
                  have f9 : w6.frozen? ⟨g, r * 12 + 9, none⟩ = false := E6.out.frozen (r * 12 + 9)
                  have f10 : w6.frozen? ⟨g, r * 12 + 10, none⟩ = false := E6.out.frozen (r * 12 + 10)
                  have f11 : w6.frozen? ⟨g, r * 12 + 11, none⟩ = false := E6.out.frozen (r * 12 + 11)
                  go_wp2_with fail
                  refine hK.out _ _ (KEEP.out _ E6.out) (fun hHeld => ?_)
                  clear hK K
                  try simp only [List.getElem_toArray, List.getElem_cons_succ, List.getElem_cons_zero, Act.put, List.setIfInBounds_toArray, List.set_cons_zero, List.set_cons_succ]
                  refine wpAnyH_take (i := 19) (v := ?_) rfl (by kernel_rfl) (by kernel_rfl) (by kernel_rfl) (fun _ _ _ h => h) (Or.inl ⟨by rfl, ?_⟩) (by assumption) ?_
                  rotate_left
                  · intro w hSw; (try dsimp only at hSw); go_simp; (try (with_reducible rfl))
                  try simp only [List.getElem_toArray, List.getElem_cons_succ, List.getElem_cons_zero, Act.put, List.setIfInBounds_toArray, List.set_cons_zero, List.set_cons_succ]
                  refine wpAnyH_ready (rs := [20]) (by kernel_rfl) (by simp) ?_
                  refine AllReadyH.cons rfl (fun K hK => ?_) AllReadyH.nil
                  go_simp
                  have E7 : Hid (EqB ((((((((((((w6.setCell ⟨g, r * 12, none⟩ (.int .i64 (Z 0))).setCell ⟨g, r * 12 + 1, none⟩ (.int .i64 (Z 1))).setCell ⟨g, r * 12 + 2, none⟩ (.int .i64 (Z 2))).setCell ⟨g, r * 12 + 3, none⟩ (.int .i64 (Z 3))).setCell ⟨g, r * 12 + 4, none⟩ (.int .i64 (Z 4))).setCell ⟨g, r * 12 + 5, none⟩ (.int .i64 (Z 5))).setCell ⟨g, r * 12 + 6, none⟩ (.int .i64 (Z 6))).setCell ⟨g, r * 12 + 7, none⟩ (.int .i64 (Z 7))).setCell ⟨g, r * 12 + 8, none⟩ (.int .i64 (Z 8))).setCell ⟨g, r * 12 + 9, none⟩ (.int .i64 (Z 9))).setCell ⟨g, r * 12 + 10, none⟩ (.int .i64 (Z 10))).setCell ⟨g, r * 12 + 11, none⟩ (.int .i64 (Z 11))) g n (prtF c N (r + 1))) := (E6.out.row hr Z).congr (fun r' k _ _ => by
                    unfold prtF
                    by_cases e : r' = r
                    · subst e; rw [if_pos rfl, if_neg hrc, if_pos (by omega), HZ.out]
                    · rw [if_neg e]
                      by_cases e2 : r' = c
                      · rw [if_pos e2, if_pos e2]
                      · rw [if_neg e2, if_neg e2]
                        by_cases e3 : r' < r
                        · rw [if_pos e3, if_pos (by omega)]
                        · rw [if_neg e3, if_neg (by omega)])
                  have B7 : Hid (Below g w ((((((((((((w6.setCell ⟨g, r * 12, none⟩ (.int .i64 (Z 0))).setCell ⟨g, r * 12 + 1, none⟩ (.int .i64 (Z 1))).setCell ⟨g, r * 12 + 2, none⟩ (.int .i64 (Z 2))).setCell ⟨g, r * 12 + 3, none⟩ (.int .i64 (Z 3))).setCell ⟨g, r * 12 + 4, none⟩ (.int .i64 (Z 4))).setCell ⟨g, r * 12 + 5, none⟩ (.int .i64 (Z 5))).setCell ⟨g, r * 12 + 6, none⟩ (.int .i64 (Z 6))).setCell ⟨g, r * 12 + 7, none⟩ (.int .i64 (Z 7))).setCell ⟨g, r * 12 + 8, none⟩ (.int .i64 (Z 8))).setCell ⟨g, r * 12 + 9, none⟩ (.int .i64 (Z 9))).setCell ⟨g, r * 12 + 10, none⟩ (.int .i64 (Z 10))).setCell ⟨g, r * 12 + 11, none⟩ (.int .i64 (Z 11)))) := row_below B6.out r Z
                  refine hK.out _ _ (KEEP.out _ E7.out) (fun hHeld => ?_)
                  clear hK K
                  try simp only [List.getElem_toArray, List.getElem_cons_succ, List.getElem_cons_zero, Act.put, List.setIfInBounds_toArray, List.set_cons_zero, List.set_cons_succ]
                  refine wpAnyH_done (by kernel_rfl) ?_ _
                  clear E6 B6 E5 B5
                  clear q0 q1 q2 q3 q4 q5 q6 q7 q8 q9 q10 q11 f0 f1 f2 f3 f4 f5 f6 f7 f8 f9 f10 f11 hHeld
                  generalize ((((((((((((w6.setCell ⟨g, r * 12, none⟩ (.int .i64 (Z 0))).setCell ⟨g, r * 12 + 1, none⟩ (.int .i64 (Z 1))).setCell ⟨g, r * 12 + 2, none⟩ (.int .i64 (Z 2))).setCell ⟨g, r * 12 + 3, none⟩ (.int .i64 (Z 3))).setCell ⟨g, r * 12 + 4, none⟩ (.int .i64 (Z 4))).setCell ⟨g, r * 12 + 5, none⟩ (.int .i64 (Z 5))).setCell ⟨g, r * 12 + 6, none⟩ (.int .i64 (Z 6))).setCell ⟨g, r * 12 + 7, none⟩ (.int .i64 (Z 7))).setCell ⟨g, r * 12 + 8, none⟩ (.int .i64 (Z 8))).setCell ⟨g, r * 12 + 9, none⟩ (.int .i64 (Z 9))).setCell ⟨g, r * 12 + 10, none⟩ (.int .i64 (Z 10))).setCell ⟨g, r * 12 + 11, none⟩ (.int .i64 (Z 11))) = w7 at *
                  go_wp2
                  go_roundw
                  case rel => exact ⟨r + 1, by omega, by go_num, E7.out, B7.out⟩
                  case measure => simp [intOf]; omega
          · obtain rfl : n = r := by omega
            have E8 : Hid (EqB wr g n (slvF M (c + 1))) := HE.out.congr (fun r' k hr' _ => by rw [prtF_end r' k hr', ← HNN.out]; rfl)
            go_wp2
            go_roundw
            case rel => exact ⟨c + 1, by omega, by go_num, E8.out, HB2.out⟩
            case measure => simp [intOf]; omega
      · go_simp
        refine hK.out _ _ (trivial) (fun hHeld => ?_)
        clear hK K
        try simp only [List.getElem_toArray, List.getElem_cons_succ, List.getElem_cons_zero, Act.put, List.setIfInBounds_toArray, List.set_cons_zero, List.set_cons_succ]
        refine wpAnyH_ready (rs := [5, 13]) (by kernel_rfl) (by simp) ?_
        refine AllReadyH.cons rfl (fun K hK => ?_) (AllReadyH.cons rfl (fun K hK => ?_) AllReadyH.nil)
        · go_simp
          refine hK.out _ _ (trivial) (fun hHeld => ?_)
          clear hK K
          try simp only [List.getElem_toArray, List.getElem_cons_succ, List.getElem_cons_zero, Act.put, List.setIfInBounds_toArray, List.set_cons_zero, List.set_cons_succ]
          refine wpAnyH_ready (rs := [13]) (by kernel_rfl) (by simp) ?_
          refine AllReadyH.cons rfl (fun K hK => ?_) AllReadyH.nil
          go_simp
          go_at_call 53
          refine (CI.out _).mono ?_
          rintro e w' ⟨rfl, rfl⟩
          go_wp2_with fail
          refine hK.out _ _ (trivial) (fun hHeld => ?_)
          clear hK K
          try simp only [List.getElem_toArray, List.getElem_cons_succ, List.getElem_cons_zero, Act.put, List.setIfInBounds_toArray, List.set_cons_zero, List.set_cons_succ]
          refine wpAnyH_ready (rs := [14]) (by kernel_rfl) (by simp) ?_
          refine AllReadyH.cons rfl (fun K hK => ?_) AllReadyH.nil
          go_simp
          go_at_call 62
          refine (CT.out _).mono ?_
          rintro e w3 ⟨rfl, hb⟩
          have E3 : Hid (EqB w3 g n N) := (HN.out.drew).later hb
          have B3 : Hid (Below g w w3) := (HB.out.drew).trans (hb.mono (Nat.le_of_lt HN.out.lt))
          clear hb
          have q0 : w3.cell? ⟨g, c * 12, none⟩ = some (.int .i64 (N c 0)) := E3.out.cell (r := c) (k := 0) hc (by omega)
          have q1 : w3.cell? ⟨g, c * 12 + 1, none⟩ = some (.int .i64 (N c 1)) := E3.out.cell (r := c) (k := 1) hc (by omega)
          have q2 : w3.cell? ⟨g, c * 12 + 2, none⟩ = some (.int .i64 (N c 2)) := E3.out.cell (r := c) (k := 2) hc (by omega)
          have q3 : w3.cell? ⟨g, c * 12 + 3, none⟩ = some (.int .i64 (N c 3)) := E3.out.cell (r := c) (k := 3) hc (by omega)
          have q4 : w3.cell? ⟨g, c * 12 + 4, none⟩ = some (.int .i64 (N c 4)) := E3.out.cell (r := c) (k := 4) hc (by omega)
          have q5 : w3.cell? ⟨g, c * 12 + 5, none⟩ = some (.int .i64 (N c 5)) := E3.out.cell (r := c) (k := 5) hc (by omega)
          have q6 : w3.cell? ⟨g, c * 12 + 6, none⟩ = some (.int .i64 (N c 6)) := E3.out.cell (r := c) (k := 6) hc (by omega)
          have q7 : w3.cell? ⟨g, c * 12 + 7, none⟩ = some (.int .i64 (N c 7)) := E3.out.cell (r := c) (k := 7) hc (by omega)
          have q8 : w3.cell? ⟨g, c * 12 + 8, none⟩ = some (.int .i64 (N c 8)) := E3.out.cell (r := c) (k := 8) hc (by omega)
          have q9 : w3.cell? ⟨g, c * 12 + 9, none⟩ = some (.int .i64 (N c 9)) := E3.out.cell (r := c) (k := 9) hc (by omega)
          have q10 : w3.cell? ⟨g, c * 12 + 10, none⟩ = some (.int .i64 (N c 10)) := E3.out.cell (r := c) (k := 10) hc (by omega)
          have q11 : w3.cell? ⟨g, c * 12 + 11, none⟩ = some (.int .i64 (N c 11)) := E3.out.cell (r := c) (k := 11) hc (by omega)
          have f0 : w3.frozen? ⟨g, c * 12, none⟩ = false := E3.out.frozen (c * 12)
          have f1 : w3.frozen? ⟨g, c * 12 + 1, none⟩ = false := E3.out.frozen (c * 12 + 1)
          have f2 : w3.frozen? ⟨g, c * 12 + 2, none⟩ = false := E3.out.frozen (c * 12 + 2)
          have f3 : w3.frozen? ⟨g, c * 12 + 3, none⟩ = false := E3.out.frozen (c * 12 + 3)
          have f4 : w3.frozen? ⟨g, c * 12 + 4, none⟩ = false := E3.out.frozen (c * 12 + 4)
          have f5 : w3.frozen? ⟨g, c * 12 + 5, none⟩ = false := E3.out.frozen (c * 12 + 5)
          have f6 : w3.frozen? ⟨g, c * 12 + 6, none⟩ = false := E3.out.frozen (c * 12 + 6)
          have f7 : w3.frozen? ⟨g, c * 12 + 7, none⟩ = false := E3.out.frozen (c * 12 + 7)
          have f8 : w3.frozen? ⟨g, c * 12 + 8, none⟩ = false := E3.out.frozen (c * 12 + 8)
          have f9 : w3.frozen? ⟨g, c * 12 + 9, none⟩ = false := E3.out.frozen (c * 12 + 9)
          have f10 : w3.frozen? ⟨g, c * 12 + 10, none⟩ = false := E3.out.frozen (c * 12 + 10)
          have f11 : w3.frozen? ⟨g, c * 12 + 11, none⟩ = false := E3.out.frozen (c * 12 + 11)
          go_wp2_with fail
          refine hK.out _ _ (trivial) (fun hHeld => ?_)
          clear hK K
          try simp only [List.getElem_toArray, List.getElem_cons_succ, List.getElem_cons_zero, Act.put, List.setIfInBounds_toArray, List.set_cons_zero, List.set_cons_succ]
          refine wpAnyH_take (i := 15) (v := ?_) rfl (by kernel_rfl) (by kernel_rfl) (by kernel_rfl) (fun _ _ _ h => h) (Or.inl ⟨by rfl, ?_⟩) (by assumption) ?_
          rotate_left
          · intro w hSw; (try dsimp only at hSw); go_simp; (try (with_reducible rfl))
          try simp only [List.getElem_toArray, List.getElem_cons_succ, List.getElem_cons_zero, Act.put, List.setIfInBounds_toArray, List.set_cons_zero, List.set_cons_succ]
          refine wpAnyH_ready (rs := [16]) (by kernel_rfl) (by simp) ?_
          refine AllReadyH.cons rfl (fun K hK => ?_) AllReadyH.nil
          go_simp
          refine hK.out _ _ (trivial) (fun hHeld => ?_)
          clear hK K
          try simp only [List.getElem_toArray, List.getElem_cons_succ, List.getElem_cons_zero, Act.put, List.setIfInBounds_toArray, List.set_cons_zero, List.set_cons_succ]
          refine wpAnyH_done (by kernel_rfl) ?_ _
          have E4 : Hid (EqB ((((((((((((w3.setCell ⟨g, c * 12, none⟩ (.int .i64 (P 0))).setCell ⟨g, c * 12 + 1, none⟩ (.int .i64 (P 1))).setCell ⟨g, c * 12 + 2, none⟩ (.int .i64 (P 2))).setCell ⟨g, c * 12 + 3, none⟩ (.int .i64 (P 3))).setCell ⟨g, c * 12 + 4, none⟩ (.int .i64 (P 4))).setCell ⟨g, c * 12 + 5, none⟩ (.int .i64 (P 5))).setCell ⟨g, c * 12 + 6, none⟩ (.int .i64 (P 6))).setCell ⟨g, c * 12 + 7, none⟩ (.int .i64 (P 7))).setCell ⟨g, c * 12 + 8, none⟩ (.int .i64 (P 8))).setCell ⟨g, c * 12 + 9, none⟩ (.int .i64 (P 9))).setCell ⟨g, c * 12 + 10, none⟩ (.int .i64 (P 10))).setCell ⟨g, c * 12 + 11, none⟩ (.int .i64 (P 11))) g n (prtF c N 0)) := (E3.out.row hc P).congr (fun r k _ _ => by
            unfold prtF
            by_cases e : r = c
            · rw [if_pos e, if_pos e, HP.out]
            · rw [if_neg e, if_neg e, if_neg (by omega)])
          have B4 : Hid (Below g w ((((((((((((w3.setCell ⟨g, c * 12, none⟩ (.int .i64 (P 0))).setCell ⟨g, c * 12 + 1, none⟩ (.int .i64 (P 1))).setCell ⟨g, c * 12 + 2, none⟩ (.int .i64 (P 2))).setCell ⟨g, c * 12 + 3, none⟩ (.int .i64 (P 3))).setCell ⟨g, c * 12 + 4, none⟩ (.int .i64 (P 4))).setCell ⟨g, c * 12 + 5, none⟩ (.int .i64 (P 5))).setCell ⟨g, c * 12 + 6, none⟩ (.int .i64 (P 6))).setCell ⟨g, c * 12 + 7, none⟩ (.int .i64 (P 7))).setCell ⟨g, c * 12 + 8, none⟩ (.int .i64 (P 8))).setCell ⟨g, c * 12 + 9, none⟩ (.int .i64 (P 9))).setCell ⟨g, c * 12 + 10, none⟩ (.int .i64 (P 10))).setCell ⟨g, c * 12 + 11, none⟩ (.int .i64 (P 11)))) := row_below B3.out c P
          clear E3 B3
          clear q0 q1 q2 q3 q4 q5 q6 q7 q8 q9 q10 q11 f0 f1 f2 f3 f4 f5 f6 f7 f8 f9 f10 f11 x0 x1 x2 x3 x4 x5 x6 x7 x8 x9 x10 x11
          generalize ((((((((((((w3.setCell ⟨g, c * 12, none⟩ (.int .i64 (P 0))).setCell ⟨g, c * 12 + 1, none⟩ (.int .i64 (P 1))).setCell ⟨g, c * 12 + 2, none⟩ (.int .i64 (P 2))).setCell ⟨g, c * 12 + 3, none⟩ (.int .i64 (P 3))).setCell ⟨g, c * 12 + 4, none⟩ (.int .i64 (P 4))).setCell ⟨g, c * 12 + 5, none⟩ (.int .i64 (P 5))).setCell ⟨g, c * 12 + 6, none⟩ (.int .i64 (P 6))).setCell ⟨g, c * 12 + 7, none⟩ (.int .i64 (P 7))).setCell ⟨g, c * 12 + 8, none⟩ (.int .i64 (P 8))).setCell ⟨g, c * 12 + 9, none⟩ (.int .i64 (P 9))).setCell ⟨g, c * 12 + 10, none⟩ (.int .i64 (P 10))).setCell ⟨g, c * 12 + 11, none⟩ (.int .i64 (P 11))) = w4 at *
          go_wp2
          go_loopw [27] (fun i wr => ∃ r : Nat, r ≤ n ∧ i = .int .i64 r ∧ Hid (EqB wr g n (prtF c N r)) ∧ Hid (Below g w wr)) (fun i _ => n - (intOf i).toNat)
          case atStart => exact ⟨0, Nat.zero_le _, rfl, E4.out, B4.out⟩
          case round =>
            clear E4 B4
            obtain ⟨r, hrn, rfl, HE, HB2⟩ := hrel
            by_cases hr : r < n
            · have hrI : (r : Int) < (n : Int) := by omega
              have hr4 : (r : Int) < 4 := by omega
              by_cases hrc : r = c
              · have hd : ((r : Int) != (c : Int)) = false := by simp; omega
                have E7 : Hid (EqB wr g n (prtF c N (r + 1))) := HE.out.congr (fun r' k _ _ => by
                  unfold prtF
                  by_cases e : r' = c
                  · rw [if_pos e, if_pos e]
                  · rw [if_neg e, if_neg e]
                    by_cases e3 : r' < r
                    · rw [if_pos e3, if_pos (by omega)]
                    · rw [if_neg e3, if_neg (by omega)])
                clear hrc
                go_wp2
                go_roundw
                case rel => exact ⟨r + 1, by omega, by go_num, E7.out, HB2.out⟩
                case measure => simp [intOf]; omega
              · have hd : ((r : Int) != (c : Int)) = true := by simp; omega
                obtain ⟨Z, hZ⟩ : ∃ Z, (fun k => (N r k - P k * N r c % 65537) % 65537) = Z := ⟨_, rfl⟩
                have HZ : Hid (∀ k, Z k = (N r k - N c k * invT (N c c) % 65537 * N r c % 65537) % 65537) := fun k => by rw [← hZ]; show (N r k - P k * N r c % 65537) % 65537 = _; rw [HP.out]
                have CT2 : Hid (∀ W, Calls Tryd.prog 62 #[.agg (eRow P), .int .i64 (N r c)] W fun e w' => e = .returned (.agg (eRow (fun k => P k * N r c % 65537))) ∧ Below W.heap.size W w') := fun W => times_any P (N r c) W HPB.out (HNB.out r c)
                have CM : Hid (∀ W, Calls Tryd.prog 63 #[.agg (eRow (fun k => N r k)), .agg (eRow (fun k => P k * N r c % 65537))] W fun e w' => e = .returned (.agg (eRow Z)) ∧ Below W.heap.size W w') := fun W => by
                  rw [← hZ]; exact minus_any (fun k => N r k) (fun k => P k * N r c % 65537) W (fun k => HNB.out r k) (fun k => emod_bd _)
                have KEEP : Hid (∀ (W : World) {R : Nat}, EqB W g n (prtF c N R) → W.cell? ⟨g, c * 12, none⟩ = some (.int .i64 (P 0)) ∧ W.cell? ⟨g, c * 12 + 1, none⟩ = some (.int .i64 (P 1)) ∧ W.cell? ⟨g, c * 12 + 2, none⟩ = some (.int .i64 (P 2)) ∧ W.cell? ⟨g, c * 12 + 3, none⟩ = some (.int .i64 (P 3)) ∧ W.cell? ⟨g, c * 12 + 4, none⟩ = some (.int .i64 (P 4)) ∧ W.cell? ⟨g, c * 12 + 5, none⟩ = some (.int .i64 (P 5)) ∧ W.cell? ⟨g, c * 12 + 6, none⟩ = some (.int .i64 (P 6)) ∧ W.cell? ⟨g, c * 12 + 7, none⟩ = some (.int .i64 (P 7)) ∧ W.cell? ⟨g, c * 12 + 8, none⟩ = some (.int .i64 (P 8)) ∧ W.cell? ⟨g, c * 12 + 9, none⟩ = some (.int .i64 (P 9)) ∧ W.cell? ⟨g, c * 12 + 10, none⟩ = some (.int .i64 (P 10)) ∧ W.cell? ⟨g, c * 12 + 11, none⟩ = some (.int .i64 (P 11))) := fun W R h => ⟨(h.cell hc (show 0 < 12 by omega)).trans (by rw [prtF_c, HP.out]), (h.cell hc (show 1 < 12 by omega)).trans (by rw [prtF_c, HP.out]), (h.cell hc (show 2 < 12 by omega)).trans (by rw [prtF_c, HP.out]), (h.cell hc (show 3 < 12 by omega)).trans (by rw [prtF_c, HP.out]), (h.cell hc (show 4 < 12 by omega)).trans (by rw [prtF_c, HP.out]), (h.cell hc (show 5 < 12 by omega)).trans (by rw [prtF_c, HP.out]), (h.cell hc (show 6 < 12 by omega)).trans (by rw [prtF_c, HP.out]), (h.cell hc (show 7 < 12 by omega)).trans (by rw [prtF_c, HP.out]), (h.cell hc (show 8 < 12 by omega)).trans (by rw [prtF_c, HP.out]), (h.cell hc (show 9 < 12 by omega)).trans (by rw [prtF_c, HP.out]), (h.cell hc (show 10 < 12 by omega)).trans (by rw [prtF_c, HP.out]), (h.cell hc (show 11 < 12 by omega)).trans (by rw [prtF_c, HP.out])⟩
                have HRC : Hid (∀ W, EqB W g n (prtF c N r) → ∀ k, k < 12 → W.cell? ⟨g, r * 12 + k, none⟩ = some (.int .i64 (N r k))) := fun W h k hk => by rw [h.cell hr hk, prtF_r k hrc]
                have hwt : wr.drew.cell? ⟨g, r * 12 + c, none⟩ = some (.int .i64 (N r c)) := HRC.out wr HE.out c (by omega)
                have x0 : wr.drew.cell? ⟨g, r * 12, none⟩ = some (.int .i64 (N r 0)) := HRC.out wr HE.out 0 (by omega)
                have x1 : wr.drew.cell? ⟨g, r * 12 + 1, none⟩ = some (.int .i64 (N r 1)) := HRC.out wr HE.out 1 (by omega)
                have x2 : wr.drew.cell? ⟨g, r * 12 + 2, none⟩ = some (.int .i64 (N r 2)) := HRC.out wr HE.out 2 (by omega)
                have x3 : wr.drew.cell? ⟨g, r * 12 + 3, none⟩ = some (.int .i64 (N r 3)) := HRC.out wr HE.out 3 (by omega)
                have x4 : wr.drew.cell? ⟨g, r * 12 + 4, none⟩ = some (.int .i64 (N r 4)) := HRC.out wr HE.out 4 (by omega)
                have x5 : wr.drew.cell? ⟨g, r * 12 + 5, none⟩ = some (.int .i64 (N r 5)) := HRC.out wr HE.out 5 (by omega)
                have x6 : wr.drew.cell? ⟨g, r * 12 + 6, none⟩ = some (.int .i64 (N r 6)) := HRC.out wr HE.out 6 (by omega)
                have x7 : wr.drew.cell? ⟨g, r * 12 + 7, none⟩ = some (.int .i64 (N r 7)) := HRC.out wr HE.out 7 (by omega)
                have x8 : wr.drew.cell? ⟨g, r * 12 + 8, none⟩ = some (.int .i64 (N r 8)) := HRC.out wr HE.out 8 (by omega)
                have x9 : wr.drew.cell? ⟨g, r * 12 + 9, none⟩ = some (.int .i64 (N r 9)) := HRC.out wr HE.out 9 (by omega)
                have x10 : wr.drew.cell? ⟨g, r * 12 + 10, none⟩ = some (.int .i64 (N r 10)) := HRC.out wr HE.out 10 (by omega)
                have x11 : wr.drew.cell? ⟨g, r * 12 + 11, none⟩ = some (.int .i64 (N r 11)) := HRC.out wr HE.out 11 (by omega)
                clear hZ
                go_upto_region 8 with fail
                refine wp_region_held_drew (S := (fun W : World => W.cell? ⟨g, c * 12, none⟩ = some (.int .i64 (P 0)) ∧ W.cell? ⟨g, c * 12 + 1, none⟩ = some (.int .i64 (P 1)) ∧ W.cell? ⟨g, c * 12 + 2, none⟩ = some (.int .i64 (P 2)) ∧ W.cell? ⟨g, c * 12 + 3, none⟩ = some (.int .i64 (P 3)) ∧ W.cell? ⟨g, c * 12 + 4, none⟩ = some (.int .i64 (P 4)) ∧ W.cell? ⟨g, c * 12 + 5, none⟩ = some (.int .i64 (P 5)) ∧ W.cell? ⟨g, c * 12 + 6, none⟩ = some (.int .i64 (P 6)) ∧ W.cell? ⟨g, c * 12 + 7, none⟩ = some (.int .i64 (P 7)) ∧ W.cell? ⟨g, c * 12 + 8, none⟩ = some (.int .i64 (P 8)) ∧ W.cell? ⟨g, c * 12 + 9, none⟩ = some (.int .i64 (P 9)) ∧ W.cell? ⟨g, c * 12 + 10, none⟩ = some (.int .i64 (P 10)) ∧ W.cell? ⟨g, c * 12 + 11, none⟩ = some (.int .i64 (P 11)))) (by kernel_rfl) (KEEP.out _ HE.out.drew) ?_
                intro hHeld
                refine wpAnyH_take (i := 0) (v := ?_) rfl (by kernel_rfl) (by kernel_rfl) (by kernel_rfl) (fun _ _ _ h => h) (Or.inl ⟨by rfl, ?_⟩) (by assumption) ?_
                rotate_left
                · intro w hSw; (try dsimp only at hSw); go_simp; (try (with_reducible rfl))
                try simp only [List.getElem_toArray, List.getElem_cons_succ, List.getElem_cons_zero, Act.put, List.setIfInBounds_toArray, List.set_cons_zero, List.set_cons_succ]
                refine wpAnyH_take (i := 1) (v := ?_) rfl (by kernel_rfl) (by kernel_rfl) (by kernel_rfl) (fun _ _ _ h => h) (Or.inl ⟨by rfl, ?_⟩) (by assumption) ?_
                rotate_left
                · intro w hSw; (try dsimp only at hSw); go_simp; (try (with_reducible rfl))
                try simp only [List.getElem_toArray, List.getElem_cons_succ, List.getElem_cons_zero, Act.put, List.setIfInBounds_toArray, List.set_cons_zero, List.set_cons_succ]
                refine wpAnyH_take (i := 2) (v := ?_) rfl (by kernel_rfl) (by kernel_rfl) (by kernel_rfl) (fun _ _ _ h => h) (Or.inl ⟨by rfl, ?_⟩) (by assumption) ?_
                rotate_left
                · intro w hSw; (try dsimp only at hSw); go_simp; (try (with_reducible rfl))
                try simp only [List.getElem_toArray, List.getElem_cons_succ, List.getElem_cons_zero, Act.put, List.setIfInBounds_toArray, List.set_cons_zero, List.set_cons_succ]
                refine wpAnyH_take (i := 3) (v := ?_) rfl (by kernel_rfl) (by kernel_rfl) (by kernel_rfl) (fun _ _ _ h => h) (Or.inl ⟨by rfl, ?_⟩) (by assumption) ?_
                rotate_left
                · intro w hSw; (try dsimp only at hSw); go_simp; (try (with_reducible rfl))
                try simp only [List.getElem_toArray, List.getElem_cons_succ, List.getElem_cons_zero, Act.put, List.setIfInBounds_toArray, List.set_cons_zero, List.set_cons_succ]
                refine wpAnyH_take (i := 4) (v := ?_) rfl (by kernel_rfl) (by kernel_rfl) (by kernel_rfl) (fun _ _ _ h => h) (Or.inl ⟨by rfl, ?_⟩) (by assumption) ?_
                rotate_left
                · intro w hSw; (try dsimp only at hSw); go_simp; (try (with_reducible rfl))
                try simp only [List.getElem_toArray, List.getElem_cons_succ, List.getElem_cons_zero, Act.put, List.setIfInBounds_toArray, List.set_cons_zero, List.set_cons_succ]
                refine wpAnyH_take (i := 6) (v := ?_) rfl (by kernel_rfl) (by kernel_rfl) (by kernel_rfl) (fun _ _ _ h => h) (Or.inl ⟨by rfl, ?_⟩) (by assumption) ?_
                rotate_left
                · intro w hSw; (try dsimp only at hSw); go_simp; (try (with_reducible rfl))
                try simp only [List.getElem_toArray, List.getElem_cons_succ, List.getElem_cons_zero, Act.put, List.setIfInBounds_toArray, List.set_cons_zero, List.set_cons_succ]
                refine wpAnyH_take (i := 7) (v := ?_) rfl (by kernel_rfl) (by kernel_rfl) (by kernel_rfl) (fun _ _ _ h => h) (Or.inl ⟨by rfl, ?_⟩) (by assumption) ?_
                rotate_left
                · intro w hSw; (try dsimp only at hSw); go_simp; (try (with_reducible rfl))
                try simp only [List.getElem_toArray, List.getElem_cons_succ, List.getElem_cons_zero, Act.put, List.setIfInBounds_toArray, List.set_cons_zero, List.set_cons_succ]
                refine wpAnyH_take (i := 8) (v := ?_) rfl (by kernel_rfl) (by kernel_rfl) (by kernel_rfl) (fun _ _ _ h => h) (Or.inl ⟨by rfl, ?_⟩) (by assumption) ?_
                rotate_left
                · intro w hSw; (try dsimp only at hSw); go_simp; (try (with_reducible rfl))
                try simp only [List.getElem_toArray, List.getElem_cons_succ, List.getElem_cons_zero, Act.put, List.setIfInBounds_toArray, List.set_cons_zero, List.set_cons_succ]
                refine wpAnyH_take (i := 9) (v := ?_) rfl (by kernel_rfl) (by kernel_rfl) (by kernel_rfl) (fun _ _ _ h => h) (Or.inl ⟨by rfl, ?_⟩) (by assumption) ?_
                rotate_left
                · intro w hSw; (try dsimp only at hSw); go_simp; (try (with_reducible rfl))
                try simp only [List.getElem_toArray, List.getElem_cons_succ, List.getElem_cons_zero, Act.put, List.setIfInBounds_toArray, List.set_cons_zero, List.set_cons_succ]
                refine wpAnyH_take (i := 10) (v := ?_) rfl (by kernel_rfl) (by kernel_rfl) (by kernel_rfl) (fun _ _ _ h => h) (Or.inl ⟨by rfl, ?_⟩) (by assumption) ?_
                rotate_left
                · intro w hSw; (try dsimp only at hSw); go_simp; (try (with_reducible rfl))
                try simp only [List.getElem_toArray, List.getElem_cons_succ, List.getElem_cons_zero, Act.put, List.setIfInBounds_toArray, List.set_cons_zero, List.set_cons_succ]
                refine wpAnyH_take (i := 11) (v := ?_) rfl (by kernel_rfl) (by kernel_rfl) (by kernel_rfl) (fun _ _ _ h => h) (Or.inl ⟨by rfl, ?_⟩) (by assumption) ?_
                rotate_left
                · intro w hSw; (try dsimp only at hSw); go_simp; (try (with_reducible rfl))
                try simp only [List.getElem_toArray, List.getElem_cons_succ, List.getElem_cons_zero, Act.put, List.setIfInBounds_toArray, List.set_cons_zero, List.set_cons_succ]
                refine wpAnyH_take (i := 12) (v := ?_) rfl (by kernel_rfl) (by kernel_rfl) (by kernel_rfl) (fun _ _ _ h => h) (Or.inl ⟨by rfl, ?_⟩) (by assumption) ?_
                rotate_left
                · intro w hSw; (try dsimp only at hSw); go_simp; (try (with_reducible rfl))
                try simp only [List.getElem_toArray, List.getElem_cons_succ, List.getElem_cons_zero, Act.put, List.setIfInBounds_toArray, List.set_cons_zero, List.set_cons_succ]
                refine wpAnyH_take (i := 13) (v := ?_) rfl (by kernel_rfl) (by kernel_rfl) (by kernel_rfl) (fun _ _ _ h => h) (Or.inl ⟨by rfl, ?_⟩) (by assumption) ?_
                rotate_left
                · intro w hSw; (try dsimp only at hSw); go_simp; (try (with_reducible rfl))
                try simp only [List.getElem_toArray, List.getElem_cons_succ, List.getElem_cons_zero, Act.put, List.setIfInBounds_toArray, List.set_cons_zero, List.set_cons_succ]
                refine wpAnyH_take (i := 14) (v := ?_) rfl (by kernel_rfl) (by kernel_rfl) (by kernel_rfl) (fun _ _ _ h => h) (Or.inl ⟨by rfl, ?_⟩) (by assumption) ?_
                rotate_left
                · intro w hSw; (try dsimp only at hSw); go_simp; (try (with_reducible rfl))
                try simp only [List.getElem_toArray, List.getElem_cons_succ, List.getElem_cons_zero, Act.put, List.setIfInBounds_toArray, List.set_cons_zero, List.set_cons_succ]
                refine wpAnyH_take (i := 15) (v := ?_) rfl (by kernel_rfl) (by kernel_rfl) (by kernel_rfl) (fun _ _ _ h => h) (Or.inl ⟨by rfl, ?_⟩) (by assumption) ?_
                rotate_left
                · intro w hSw; (try dsimp only at hSw); go_simp; (try (with_reducible rfl))
                try simp only [List.getElem_toArray, List.getElem_cons_succ, List.getElem_cons_zero, Act.put, List.setIfInBounds_toArray, List.set_cons_zero, List.set_cons_succ]
                refine wpAnyH_ready (rs := [5, 16]) (by kernel_rfl) (by simp) ?_
                refine AllReadyH.cons rfl (fun K hK => ?_) (AllReadyH.cons rfl (fun K hK => ?_) AllReadyH.nil)
                · go_simp
                  refine hK.out _ _ (KEEP.out _ HE.out.drew) (fun hHeld => ?_)
                  clear hK K
                  try simp only [List.getElem_toArray, List.getElem_cons_succ, List.getElem_cons_zero, Act.put, List.setIfInBounds_toArray, List.set_cons_zero, List.set_cons_succ]
                  refine wpAnyH_ready (rs := [16]) (by kernel_rfl) (by simp) ?_
                  refine AllReadyH.cons rfl (fun K hK => ?_) AllReadyH.nil
                  go_simp
                  refine hK.out _ _ (KEEP.out _ HE.out.drew) (fun hHeld => ?_)
                  clear hK K
                  try simp only [List.getElem_toArray, List.getElem_cons_succ, List.getElem_cons_zero, Act.put, List.setIfInBounds_toArray, List.set_cons_zero, List.set_cons_succ]
                  refine wpAnyH_ready (rs := [17]) (by kernel_rfl) (by simp) ?_
                  refine AllReadyH.cons rfl (fun K hK => ?_) AllReadyH.nil
                  go_simp
                  go_at_call 62
                  refine (CT2.out _).mono ?_
                  rintro e w5 ⟨rfl, hb⟩
                  have E5 : Hid (EqB w5 g n (prtF c N r)) := (HE.out.drew).later hb
                  have B5 : Hid (Below g w w5) := (HB2.out.drew).trans (hb.mono (Nat.le_of_lt HE.out.lt))
                  clear hb
                  have q0 : w5.cell? ⟨g, r * 12, none⟩ = some (.int .i64 (N r 0)) := HRC.out _ E5.out 0 (by omega)
                  have q1 : w5.cell? ⟨g, r * 12 + 1, none⟩ = some (.int .i64 (N r 1)) := HRC.out _ E5.out 1 (by omega)
                  have q2 : w5.cell? ⟨g, r * 12 + 2, none⟩ = some (.int .i64 (N r 2)) := HRC.out _ E5.out 2 (by omega)
                  have q3 : w5.cell? ⟨g, r * 12 + 3, none⟩ = some (.int .i64 (N r 3)) := HRC.out _ E5.out 3 (by omega)
                  have q4 : w5.cell? ⟨g, r * 12 + 4, none⟩ = some (.int .i64 (N r 4)) := HRC.out _ E5.out 4 (by omega)
                  have q5 : w5.cell? ⟨g, r * 12 + 5, none⟩ = some (.int .i64 (N r 5)) := HRC.out _ E5.out 5 (by omega)
                  have q6 : w5.cell? ⟨g, r * 12 + 6, none⟩ = some (.int .i64 (N r 6)) := HRC.out _ E5.out 6 (by omega)
                  have q7 : w5.cell? ⟨g, r * 12 + 7, none⟩ = some (.int .i64 (N r 7)) := HRC.out _ E5.out 7 (by omega)
                  have q8 : w5.cell? ⟨g, r * 12 + 8, none⟩ = some (.int .i64 (N r 8)) := HRC.out _ E5.out 8 (by omega)
                  have q9 : w5.cell? ⟨g, r * 12 + 9, none⟩ = some (.int .i64 (N r 9)) := HRC.out _ E5.out 9 (by omega)
                  have q10 : w5.cell? ⟨g, r * 12 + 10, none⟩ = some (.int .i64 (N r 10)) := HRC.out _ E5.out 10 (by omega)
                  have q11 : w5.cell? ⟨g, r * 12 + 11, none⟩ = some (.int .i64 (N r 11)) := HRC.out _ E5.out 11 (by omega)
                  go_wp2_with fail
                  refine hK.out _ _ (KEEP.out _ E5.out) (fun hHeld => ?_)
                  clear hK K
                  try simp only [List.getElem_toArray, List.getElem_cons_succ, List.getElem_cons_zero, Act.put, List.setIfInBounds_toArray, List.set_cons_zero, List.set_cons_succ]
                  refine wpAnyH_ready (rs := [18]) (by kernel_rfl) (by simp) ?_
                  refine AllReadyH.cons rfl (fun K hK => ?_) AllReadyH.nil
                  go_simp
                  go_at_call 63
                  refine (CM.out _).mono ?_
                  rintro e w6 ⟨rfl, hb⟩
                  have E6 : Hid (EqB w6 g n (prtF c N r)) := E5.out.later hb
                  have B6 : Hid (Below g w w6) := B5.out.trans (hb.mono (Nat.le_of_lt E5.out.lt))
                  clear hb
                  clear q0 q1 q2 q3 q4 q5 q6 q7 q8 q9 q10 q11 x0 x1 x2 x3 x4 x5 x6 x7 x8 x9 x10 x11
                  have q0 : w6.cell? ⟨g, r * 12, none⟩ = some (.int .i64 (N r 0)) := HRC.out _ E6.out 0 (by omega)
                  have q1 : w6.cell? ⟨g, r * 12 + 1, none⟩ = some (.int .i64 (N r 1)) := HRC.out _ E6.out 1 (by omega)
                  have q2 : w6.cell? ⟨g, r * 12 + 2, none⟩ = some (.int .i64 (N r 2)) := HRC.out _ E6.out 2 (by omega)
                  have q3 : w6.cell? ⟨g, r * 12 + 3, none⟩ = some (.int .i64 (N r 3)) := HRC.out _ E6.out 3 (by omega)
                  have q4 : w6.cell? ⟨g, r * 12 + 4, none⟩ = some (.int .i64 (N r 4)) := HRC.out _ E6.out 4 (by omega)
                  have q5 : w6.cell? ⟨g, r * 12 + 5, none⟩ = some (.int .i64 (N r 5)) := HRC.out _ E6.out 5 (by omega)
                  have q6 : w6.cell? ⟨g, r * 12 + 6, none⟩ = some (.int .i64 (N r 6)) := HRC.out _ E6.out 6 (by omega)
                  have q7 : w6.cell? ⟨g, r * 12 + 7, none⟩ = some (.int .i64 (N r 7)) := HRC.out _ E6.out 7 (by omega)
                  have q8 : w6.cell? ⟨g, r * 12 + 8, none⟩ = some (.int .i64 (N r 8)) := HRC.out _ E6.out 8 (by omega)
                  have q9 : w6.cell? ⟨g, r * 12 + 9, none⟩ = some (.int .i64 (N r 9)) := HRC.out _ E6.out 9 (by omega)
                  have q10 : w6.cell? ⟨g, r * 12 + 10, none⟩ = some (.int .i64 (N r 10)) := HRC.out _ E6.out 10 (by omega)
                  have q11 : w6.cell? ⟨g, r * 12 + 11, none⟩ = some (.int .i64 (N r 11)) := HRC.out _ E6.out 11 (by omega)
                  have f0 : w6.frozen? ⟨g, r * 12, none⟩ = false := E6.out.frozen (r * 12)
                  have f1 : w6.frozen? ⟨g, r * 12 + 1, none⟩ = false := E6.out.frozen (r * 12 + 1)
                  have f2 : w6.frozen? ⟨g, r * 12 + 2, none⟩ = false := E6.out.frozen (r * 12 + 2)
                  have f3 : w6.frozen? ⟨g, r * 12 + 3, none⟩ = false := E6.out.frozen (r * 12 + 3)
                  have f4 : w6.frozen? ⟨g, r * 12 + 4, none⟩ = false := E6.out.frozen (r * 12 + 4)
                  have f5 : w6.frozen? ⟨g, r * 12 + 5, none⟩ = false := E6.out.frozen (r * 12 + 5)
                  have f6 : w6.frozen? ⟨g, r * 12 + 6, none⟩ = false := E6.out.frozen (r * 12 + 6)
                  have f7 : w6.frozen? ⟨g, r * 12 + 7, none⟩ = false := E6.out.frozen (r * 12 + 7)
                  have f8 : w6.frozen? ⟨g, r * 12 + 8, none⟩ = false := E6.out.frozen (r * 12 + 8)
                  have f9 : w6.frozen? ⟨g, r * 12 + 9, none⟩ = false := E6.out.frozen (r * 12 + 9)
                  have f10 : w6.frozen? ⟨g, r * 12 + 10, none⟩ = false := E6.out.frozen (r * 12 + 10)
                  have f11 : w6.frozen? ⟨g, r * 12 + 11, none⟩ = false := E6.out.frozen (r * 12 + 11)
                  go_wp2_with fail
                  refine hK.out _ _ (KEEP.out _ E6.out) (fun hHeld => ?_)
                  clear hK K
                  try simp only [List.getElem_toArray, List.getElem_cons_succ, List.getElem_cons_zero, Act.put, List.setIfInBounds_toArray, List.set_cons_zero, List.set_cons_succ]
                  refine wpAnyH_take (i := 19) (v := ?_) rfl (by kernel_rfl) (by kernel_rfl) (by kernel_rfl) (fun _ _ _ h => h) (Or.inl ⟨by rfl, ?_⟩) (by assumption) ?_
                  rotate_left
                  · intro w hSw; (try dsimp only at hSw); go_simp; (try (with_reducible rfl))
                  try simp only [List.getElem_toArray, List.getElem_cons_succ, List.getElem_cons_zero, Act.put, List.setIfInBounds_toArray, List.set_cons_zero, List.set_cons_succ]
                  refine wpAnyH_ready (rs := [20]) (by kernel_rfl) (by simp) ?_
                  refine AllReadyH.cons rfl (fun K hK => ?_) AllReadyH.nil
                  go_simp
                  have E7 : Hid (EqB ((((((((((((w6.setCell ⟨g, r * 12, none⟩ (.int .i64 (Z 0))).setCell ⟨g, r * 12 + 1, none⟩ (.int .i64 (Z 1))).setCell ⟨g, r * 12 + 2, none⟩ (.int .i64 (Z 2))).setCell ⟨g, r * 12 + 3, none⟩ (.int .i64 (Z 3))).setCell ⟨g, r * 12 + 4, none⟩ (.int .i64 (Z 4))).setCell ⟨g, r * 12 + 5, none⟩ (.int .i64 (Z 5))).setCell ⟨g, r * 12 + 6, none⟩ (.int .i64 (Z 6))).setCell ⟨g, r * 12 + 7, none⟩ (.int .i64 (Z 7))).setCell ⟨g, r * 12 + 8, none⟩ (.int .i64 (Z 8))).setCell ⟨g, r * 12 + 9, none⟩ (.int .i64 (Z 9))).setCell ⟨g, r * 12 + 10, none⟩ (.int .i64 (Z 10))).setCell ⟨g, r * 12 + 11, none⟩ (.int .i64 (Z 11))) g n (prtF c N (r + 1))) := (E6.out.row hr Z).congr (fun r' k _ _ => by
                    unfold prtF
                    by_cases e : r' = r
                    · subst e; rw [if_pos rfl, if_neg hrc, if_pos (by omega), HZ.out]
                    · rw [if_neg e]
                      by_cases e2 : r' = c
                      · rw [if_pos e2, if_pos e2]
                      · rw [if_neg e2, if_neg e2]
                        by_cases e3 : r' < r
                        · rw [if_pos e3, if_pos (by omega)]
                        · rw [if_neg e3, if_neg (by omega)])
                  have B7 : Hid (Below g w ((((((((((((w6.setCell ⟨g, r * 12, none⟩ (.int .i64 (Z 0))).setCell ⟨g, r * 12 + 1, none⟩ (.int .i64 (Z 1))).setCell ⟨g, r * 12 + 2, none⟩ (.int .i64 (Z 2))).setCell ⟨g, r * 12 + 3, none⟩ (.int .i64 (Z 3))).setCell ⟨g, r * 12 + 4, none⟩ (.int .i64 (Z 4))).setCell ⟨g, r * 12 + 5, none⟩ (.int .i64 (Z 5))).setCell ⟨g, r * 12 + 6, none⟩ (.int .i64 (Z 6))).setCell ⟨g, r * 12 + 7, none⟩ (.int .i64 (Z 7))).setCell ⟨g, r * 12 + 8, none⟩ (.int .i64 (Z 8))).setCell ⟨g, r * 12 + 9, none⟩ (.int .i64 (Z 9))).setCell ⟨g, r * 12 + 10, none⟩ (.int .i64 (Z 10))).setCell ⟨g, r * 12 + 11, none⟩ (.int .i64 (Z 11)))) := row_below B6.out r Z
                  refine hK.out _ _ (KEEP.out _ E7.out) (fun hHeld => ?_)
                  clear hK K
                  try simp only [List.getElem_toArray, List.getElem_cons_succ, List.getElem_cons_zero, Act.put, List.setIfInBounds_toArray, List.set_cons_zero, List.set_cons_succ]
                  refine wpAnyH_done (by kernel_rfl) ?_ _
                  clear E6 B6 E5 B5
                  clear q0 q1 q2 q3 q4 q5 q6 q7 q8 q9 q10 q11 f0 f1 f2 f3 f4 f5 f6 f7 f8 f9 f10 f11 hHeld
                  generalize ((((((((((((w6.setCell ⟨g, r * 12, none⟩ (.int .i64 (Z 0))).setCell ⟨g, r * 12 + 1, none⟩ (.int .i64 (Z 1))).setCell ⟨g, r * 12 + 2, none⟩ (.int .i64 (Z 2))).setCell ⟨g, r * 12 + 3, none⟩ (.int .i64 (Z 3))).setCell ⟨g, r * 12 + 4, none⟩ (.int .i64 (Z 4))).setCell ⟨g, r * 12 + 5, none⟩ (.int .i64 (Z 5))).setCell ⟨g, r * 12 + 6, none⟩ (.int .i64 (Z 6))).setCell ⟨g, r * 12 + 7, none⟩ (.int .i64 (Z 7))).setCell ⟨g, r * 12 + 8, none⟩ (.int .i64 (Z 8))).setCell ⟨g, r * 12 + 9, none⟩ (.int .i64 (Z 9))).setCell ⟨g, r * 12 + 10, none⟩ (.int .i64 (Z 10))).setCell ⟨g, r * 12 + 11, none⟩ (.int .i64 (Z 11))) = w7 at *
                  go_wp2
                  go_roundw
                  case rel => exact ⟨r + 1, by omega, by go_num, E7.out, B7.out⟩
                  case measure => simp [intOf]; omega
                · go_simp
                  refine hK.out _ _ (KEEP.out _ HE.out.drew) (fun hHeld => ?_)
                  clear hK K
                  try simp only [List.getElem_toArray, List.getElem_cons_succ, List.getElem_cons_zero, Act.put, List.setIfInBounds_toArray, List.set_cons_zero, List.set_cons_succ]
                  refine wpAnyH_ready (rs := [5, 17]) (by kernel_rfl) (by simp) ?_
                  refine AllReadyH.cons rfl (fun K hK => ?_) (AllReadyH.cons rfl (fun K hK => ?_) AllReadyH.nil)
                  · go_simp
                    refine hK.out _ _ (KEEP.out _ HE.out.drew) (fun hHeld => ?_)
                    clear hK K
                    try simp only [List.getElem_toArray, List.getElem_cons_succ, List.getElem_cons_zero, Act.put, List.setIfInBounds_toArray, List.set_cons_zero, List.set_cons_succ]
                    refine wpAnyH_ready (rs := [17]) (by kernel_rfl) (by simp) ?_
                    refine AllReadyH.cons rfl (fun K hK => ?_) AllReadyH.nil
                    go_simp
                    go_at_call 62
                    refine (CT2.out _).mono ?_
                    rintro e w5 ⟨rfl, hb⟩
                    have E5 : Hid (EqB w5 g n (prtF c N r)) := (HE.out.drew).later hb
                    have B5 : Hid (Below g w w5) := (HB2.out.drew).trans (hb.mono (Nat.le_of_lt HE.out.lt))
                    clear hb
                    have q0 : w5.cell? ⟨g, r * 12, none⟩ = some (.int .i64 (N r 0)) := HRC.out _ E5.out 0 (by omega)
                    have q1 : w5.cell? ⟨g, r * 12 + 1, none⟩ = some (.int .i64 (N r 1)) := HRC.out _ E5.out 1 (by omega)
                    have q2 : w5.cell? ⟨g, r * 12 + 2, none⟩ = some (.int .i64 (N r 2)) := HRC.out _ E5.out 2 (by omega)
                    have q3 : w5.cell? ⟨g, r * 12 + 3, none⟩ = some (.int .i64 (N r 3)) := HRC.out _ E5.out 3 (by omega)
                    have q4 : w5.cell? ⟨g, r * 12 + 4, none⟩ = some (.int .i64 (N r 4)) := HRC.out _ E5.out 4 (by omega)
                    have q5 : w5.cell? ⟨g, r * 12 + 5, none⟩ = some (.int .i64 (N r 5)) := HRC.out _ E5.out 5 (by omega)
                    have q6 : w5.cell? ⟨g, r * 12 + 6, none⟩ = some (.int .i64 (N r 6)) := HRC.out _ E5.out 6 (by omega)
                    have q7 : w5.cell? ⟨g, r * 12 + 7, none⟩ = some (.int .i64 (N r 7)) := HRC.out _ E5.out 7 (by omega)
                    have q8 : w5.cell? ⟨g, r * 12 + 8, none⟩ = some (.int .i64 (N r 8)) := HRC.out _ E5.out 8 (by omega)
                    have q9 : w5.cell? ⟨g, r * 12 + 9, none⟩ = some (.int .i64 (N r 9)) := HRC.out _ E5.out 9 (by omega)
                    have q10 : w5.cell? ⟨g, r * 12 + 10, none⟩ = some (.int .i64 (N r 10)) := HRC.out _ E5.out 10 (by omega)
                    have q11 : w5.cell? ⟨g, r * 12 + 11, none⟩ = some (.int .i64 (N r 11)) := HRC.out _ E5.out 11 (by omega)
                    go_wp2_with fail
                    refine hK.out _ _ (KEEP.out _ E5.out) (fun hHeld => ?_)
                    clear hK K
                    try simp only [List.getElem_toArray, List.getElem_cons_succ, List.getElem_cons_zero, Act.put, List.setIfInBounds_toArray, List.set_cons_zero, List.set_cons_succ]
                    refine wpAnyH_ready (rs := [18]) (by kernel_rfl) (by simp) ?_
                    refine AllReadyH.cons rfl (fun K hK => ?_) AllReadyH.nil
                    go_simp
                    go_at_call 63
                    refine (CM.out _).mono ?_
                    rintro e w6 ⟨rfl, hb⟩
                    have E6 : Hid (EqB w6 g n (prtF c N r)) := E5.out.later hb
                    have B6 : Hid (Below g w w6) := B5.out.trans (hb.mono (Nat.le_of_lt E5.out.lt))
                    clear hb
                    clear q0 q1 q2 q3 q4 q5 q6 q7 q8 q9 q10 q11 x0 x1 x2 x3 x4 x5 x6 x7 x8 x9 x10 x11
                    have q0 : w6.cell? ⟨g, r * 12, none⟩ = some (.int .i64 (N r 0)) := HRC.out _ E6.out 0 (by omega)
                    have q1 : w6.cell? ⟨g, r * 12 + 1, none⟩ = some (.int .i64 (N r 1)) := HRC.out _ E6.out 1 (by omega)
                    have q2 : w6.cell? ⟨g, r * 12 + 2, none⟩ = some (.int .i64 (N r 2)) := HRC.out _ E6.out 2 (by omega)
                    have q3 : w6.cell? ⟨g, r * 12 + 3, none⟩ = some (.int .i64 (N r 3)) := HRC.out _ E6.out 3 (by omega)
                    have q4 : w6.cell? ⟨g, r * 12 + 4, none⟩ = some (.int .i64 (N r 4)) := HRC.out _ E6.out 4 (by omega)
                    have q5 : w6.cell? ⟨g, r * 12 + 5, none⟩ = some (.int .i64 (N r 5)) := HRC.out _ E6.out 5 (by omega)
                    have q6 : w6.cell? ⟨g, r * 12 + 6, none⟩ = some (.int .i64 (N r 6)) := HRC.out _ E6.out 6 (by omega)
                    have q7 : w6.cell? ⟨g, r * 12 + 7, none⟩ = some (.int .i64 (N r 7)) := HRC.out _ E6.out 7 (by omega)
                    have q8 : w6.cell? ⟨g, r * 12 + 8, none⟩ = some (.int .i64 (N r 8)) := HRC.out _ E6.out 8 (by omega)
                    have q9 : w6.cell? ⟨g, r * 12 + 9, none⟩ = some (.int .i64 (N r 9)) := HRC.out _ E6.out 9 (by omega)
                    have q10 : w6.cell? ⟨g, r * 12 + 10, none⟩ = some (.int .i64 (N r 10)) := HRC.out _ E6.out 10 (by omega)
                    have q11 : w6.cell? ⟨g, r * 12 + 11, none⟩ = some (.int .i64 (N r 11)) := HRC.out _ E6.out 11 (by omega)
                    have f0 : w6.frozen? ⟨g, r * 12, none⟩ = false := E6.out.frozen (r * 12)
                    have f1 : w6.frozen? ⟨g, r * 12 + 1, none⟩ = false := E6.out.frozen (r * 12 + 1)
                    have f2 : w6.frozen? ⟨g, r * 12 + 2, none⟩ = false := E6.out.frozen (r * 12 + 2)
                    have f3 : w6.frozen? ⟨g, r * 12 + 3, none⟩ = false := E6.out.frozen (r * 12 + 3)
                    have f4 : w6.frozen? ⟨g, r * 12 + 4, none⟩ = false := E6.out.frozen (r * 12 + 4)
                    have f5 : w6.frozen? ⟨g, r * 12 + 5, none⟩ = false := E6.out.frozen (r * 12 + 5)
                    have f6 : w6.frozen? ⟨g, r * 12 + 6, none⟩ = false := E6.out.frozen (r * 12 + 6)
                    have f7 : w6.frozen? ⟨g, r * 12 + 7, none⟩ = false := E6.out.frozen (r * 12 + 7)
                    have f8 : w6.frozen? ⟨g, r * 12 + 8, none⟩ = false := E6.out.frozen (r * 12 + 8)
                    have f9 : w6.frozen? ⟨g, r * 12 + 9, none⟩ = false := E6.out.frozen (r * 12 + 9)
                    have f10 : w6.frozen? ⟨g, r * 12 + 10, none⟩ = false := E6.out.frozen (r * 12 + 10)
                    have f11 : w6.frozen? ⟨g, r * 12 + 11, none⟩ = false := E6.out.frozen (r * 12 + 11)
                    go_wp2_with fail
                    refine hK.out _ _ (KEEP.out _ E6.out) (fun hHeld => ?_)
                    clear hK K
                    try simp only [List.getElem_toArray, List.getElem_cons_succ, List.getElem_cons_zero, Act.put, List.setIfInBounds_toArray, List.set_cons_zero, List.set_cons_succ]
                    refine wpAnyH_take (i := 19) (v := ?_) rfl (by kernel_rfl) (by kernel_rfl) (by kernel_rfl) (fun _ _ _ h => h) (Or.inl ⟨by rfl, ?_⟩) (by assumption) ?_
                    rotate_left
                    · intro w hSw; (try dsimp only at hSw); go_simp; (try (with_reducible rfl))
                    try simp only [List.getElem_toArray, List.getElem_cons_succ, List.getElem_cons_zero, Act.put, List.setIfInBounds_toArray, List.set_cons_zero, List.set_cons_succ]
                    refine wpAnyH_ready (rs := [20]) (by kernel_rfl) (by simp) ?_
                    refine AllReadyH.cons rfl (fun K hK => ?_) AllReadyH.nil
                    go_simp
                    have E7 : Hid (EqB ((((((((((((w6.setCell ⟨g, r * 12, none⟩ (.int .i64 (Z 0))).setCell ⟨g, r * 12 + 1, none⟩ (.int .i64 (Z 1))).setCell ⟨g, r * 12 + 2, none⟩ (.int .i64 (Z 2))).setCell ⟨g, r * 12 + 3, none⟩ (.int .i64 (Z 3))).setCell ⟨g, r * 12 + 4, none⟩ (.int .i64 (Z 4))).setCell ⟨g, r * 12 + 5, none⟩ (.int .i64 (Z 5))).setCell ⟨g, r * 12 + 6, none⟩ (.int .i64 (Z 6))).setCell ⟨g, r * 12 + 7, none⟩ (.int .i64 (Z 7))).setCell ⟨g, r * 12 + 8, none⟩ (.int .i64 (Z 8))).setCell ⟨g, r * 12 + 9, none⟩ (.int .i64 (Z 9))).setCell ⟨g, r * 12 + 10, none⟩ (.int .i64 (Z 10))).setCell ⟨g, r * 12 + 11, none⟩ (.int .i64 (Z 11))) g n (prtF c N (r + 1))) := (E6.out.row hr Z).congr (fun r' k _ _ => by
                      unfold prtF
                      by_cases e : r' = r
                      · subst e; rw [if_pos rfl, if_neg hrc, if_pos (by omega), HZ.out]
                      · rw [if_neg e]
                        by_cases e2 : r' = c
                        · rw [if_pos e2, if_pos e2]
                        · rw [if_neg e2, if_neg e2]
                          by_cases e3 : r' < r
                          · rw [if_pos e3, if_pos (by omega)]
                          · rw [if_neg e3, if_neg (by omega)])
                    have B7 : Hid (Below g w ((((((((((((w6.setCell ⟨g, r * 12, none⟩ (.int .i64 (Z 0))).setCell ⟨g, r * 12 + 1, none⟩ (.int .i64 (Z 1))).setCell ⟨g, r * 12 + 2, none⟩ (.int .i64 (Z 2))).setCell ⟨g, r * 12 + 3, none⟩ (.int .i64 (Z 3))).setCell ⟨g, r * 12 + 4, none⟩ (.int .i64 (Z 4))).setCell ⟨g, r * 12 + 5, none⟩ (.int .i64 (Z 5))).setCell ⟨g, r * 12 + 6, none⟩ (.int .i64 (Z 6))).setCell ⟨g, r * 12 + 7, none⟩ (.int .i64 (Z 7))).setCell ⟨g, r * 12 + 8, none⟩ (.int .i64 (Z 8))).setCell ⟨g, r * 12 + 9, none⟩ (.int .i64 (Z 9))).setCell ⟨g, r * 12 + 10, none⟩ (.int .i64 (Z 10))).setCell ⟨g, r * 12 + 11, none⟩ (.int .i64 (Z 11)))) := row_below B6.out r Z
                    refine hK.out _ _ (KEEP.out _ E7.out) (fun hHeld => ?_)
                    clear hK K
                    try simp only [List.getElem_toArray, List.getElem_cons_succ, List.getElem_cons_zero, Act.put, List.setIfInBounds_toArray, List.set_cons_zero, List.set_cons_succ]
                    refine wpAnyH_done (by kernel_rfl) ?_ _
                    clear E6 B6 E5 B5
                    clear q0 q1 q2 q3 q4 q5 q6 q7 q8 q9 q10 q11 f0 f1 f2 f3 f4 f5 f6 f7 f8 f9 f10 f11 hHeld
                    generalize ((((((((((((w6.setCell ⟨g, r * 12, none⟩ (.int .i64 (Z 0))).setCell ⟨g, r * 12 + 1, none⟩ (.int .i64 (Z 1))).setCell ⟨g, r * 12 + 2, none⟩ (.int .i64 (Z 2))).setCell ⟨g, r * 12 + 3, none⟩ (.int .i64 (Z 3))).setCell ⟨g, r * 12 + 4, none⟩ (.int .i64 (Z 4))).setCell ⟨g, r * 12 + 5, none⟩ (.int .i64 (Z 5))).setCell ⟨g, r * 12 + 6, none⟩ (.int .i64 (Z 6))).setCell ⟨g, r * 12 + 7, none⟩ (.int .i64 (Z 7))).setCell ⟨g, r * 12 + 8, none⟩ (.int .i64 (Z 8))).setCell ⟨g, r * 12 + 9, none⟩ (.int .i64 (Z 9))).setCell ⟨g, r * 12 + 10, none⟩ (.int .i64 (Z 10))).setCell ⟨g, r * 12 + 11, none⟩ (.int .i64 (Z 11))) = w7 at *
                    go_wp2
                    go_roundw
                    case rel => exact ⟨r + 1, by omega, by go_num, E7.out, B7.out⟩
                    case measure => simp [intOf]; omega
                  · go_simp
                    go_at_call 62
                    refine (CT2.out _).mono ?_
                    rintro e w5 ⟨rfl, hb⟩
                    have E5 : Hid (EqB w5 g n (prtF c N r)) := (HE.out.drew).later hb
                    have B5 : Hid (Below g w w5) := (HB2.out.drew).trans (hb.mono (Nat.le_of_lt HE.out.lt))
                    clear hb
                    have q0 : w5.cell? ⟨g, r * 12, none⟩ = some (.int .i64 (N r 0)) := HRC.out _ E5.out 0 (by omega)
                    have q1 : w5.cell? ⟨g, r * 12 + 1, none⟩ = some (.int .i64 (N r 1)) := HRC.out _ E5.out 1 (by omega)
                    have q2 : w5.cell? ⟨g, r * 12 + 2, none⟩ = some (.int .i64 (N r 2)) := HRC.out _ E5.out 2 (by omega)
                    have q3 : w5.cell? ⟨g, r * 12 + 3, none⟩ = some (.int .i64 (N r 3)) := HRC.out _ E5.out 3 (by omega)
                    have q4 : w5.cell? ⟨g, r * 12 + 4, none⟩ = some (.int .i64 (N r 4)) := HRC.out _ E5.out 4 (by omega)
                    have q5 : w5.cell? ⟨g, r * 12 + 5, none⟩ = some (.int .i64 (N r 5)) := HRC.out _ E5.out 5 (by omega)
                    have q6 : w5.cell? ⟨g, r * 12 + 6, none⟩ = some (.int .i64 (N r 6)) := HRC.out _ E5.out 6 (by omega)
                    have q7 : w5.cell? ⟨g, r * 12 + 7, none⟩ = some (.int .i64 (N r 7)) := HRC.out _ E5.out 7 (by omega)
                    have q8 : w5.cell? ⟨g, r * 12 + 8, none⟩ = some (.int .i64 (N r 8)) := HRC.out _ E5.out 8 (by omega)
                    have q9 : w5.cell? ⟨g, r * 12 + 9, none⟩ = some (.int .i64 (N r 9)) := HRC.out _ E5.out 9 (by omega)
                    have q10 : w5.cell? ⟨g, r * 12 + 10, none⟩ = some (.int .i64 (N r 10)) := HRC.out _ E5.out 10 (by omega)
                    have q11 : w5.cell? ⟨g, r * 12 + 11, none⟩ = some (.int .i64 (N r 11)) := HRC.out _ E5.out 11 (by omega)
                    go_wp2_with fail
                    refine hK.out _ _ (KEEP.out _ E5.out) (fun hHeld => ?_)
                    clear hK K
                    try simp only [List.getElem_toArray, List.getElem_cons_succ, List.getElem_cons_zero, Act.put, List.setIfInBounds_toArray, List.set_cons_zero, List.set_cons_succ]
                    refine wpAnyH_ready (rs := [5]) (by kernel_rfl) (by simp) ?_
                    refine AllReadyH.cons rfl (fun K hK => ?_) AllReadyH.nil
                    go_simp
                    refine hK.out _ _ (KEEP.out _ E5.out) (fun hHeld => ?_)
                    clear hK K
                    try simp only [List.getElem_toArray, List.getElem_cons_succ, List.getElem_cons_zero, Act.put, List.setIfInBounds_toArray, List.set_cons_zero, List.set_cons_succ]
                    refine wpAnyH_ready (rs := [18]) (by kernel_rfl) (by simp) ?_
                    refine AllReadyH.cons rfl (fun K hK => ?_) AllReadyH.nil
                    go_simp
                    go_at_call 63
                    refine (CM.out _).mono ?_
                    rintro e w6 ⟨rfl, hb⟩
                    have E6 : Hid (EqB w6 g n (prtF c N r)) := E5.out.later hb
                    have B6 : Hid (Below g w w6) := B5.out.trans (hb.mono (Nat.le_of_lt E5.out.lt))
                    clear hb
                    clear q0 q1 q2 q3 q4 q5 q6 q7 q8 q9 q10 q11 x0 x1 x2 x3 x4 x5 x6 x7 x8 x9 x10 x11
                    have q0 : w6.cell? ⟨g, r * 12, none⟩ = some (.int .i64 (N r 0)) := HRC.out _ E6.out 0 (by omega)
                    have q1 : w6.cell? ⟨g, r * 12 + 1, none⟩ = some (.int .i64 (N r 1)) := HRC.out _ E6.out 1 (by omega)
                    have q2 : w6.cell? ⟨g, r * 12 + 2, none⟩ = some (.int .i64 (N r 2)) := HRC.out _ E6.out 2 (by omega)
                    have q3 : w6.cell? ⟨g, r * 12 + 3, none⟩ = some (.int .i64 (N r 3)) := HRC.out _ E6.out 3 (by omega)
                    have q4 : w6.cell? ⟨g, r * 12 + 4, none⟩ = some (.int .i64 (N r 4)) := HRC.out _ E6.out 4 (by omega)
                    have q5 : w6.cell? ⟨g, r * 12 + 5, none⟩ = some (.int .i64 (N r 5)) := HRC.out _ E6.out 5 (by omega)
                    have q6 : w6.cell? ⟨g, r * 12 + 6, none⟩ = some (.int .i64 (N r 6)) := HRC.out _ E6.out 6 (by omega)
                    have q7 : w6.cell? ⟨g, r * 12 + 7, none⟩ = some (.int .i64 (N r 7)) := HRC.out _ E6.out 7 (by omega)
                    have q8 : w6.cell? ⟨g, r * 12 + 8, none⟩ = some (.int .i64 (N r 8)) := HRC.out _ E6.out 8 (by omega)
                    have q9 : w6.cell? ⟨g, r * 12 + 9, none⟩ = some (.int .i64 (N r 9)) := HRC.out _ E6.out 9 (by omega)
                    have q10 : w6.cell? ⟨g, r * 12 + 10, none⟩ = some (.int .i64 (N r 10)) := HRC.out _ E6.out 10 (by omega)
                    have q11 : w6.cell? ⟨g, r * 12 + 11, none⟩ = some (.int .i64 (N r 11)) := HRC.out _ E6.out 11 (by omega)
                    have f0 : w6.frozen? ⟨g, r * 12, none⟩ = false := E6.out.frozen (r * 12)
                    have f1 : w6.frozen? ⟨g, r * 12 + 1, none⟩ = false := E6.out.frozen (r * 12 + 1)
                    have f2 : w6.frozen? ⟨g, r * 12 + 2, none⟩ = false := E6.out.frozen (r * 12 + 2)
                    have f3 : w6.frozen? ⟨g, r * 12 + 3, none⟩ = false := E6.out.frozen (r * 12 + 3)
                    have f4 : w6.frozen? ⟨g, r * 12 + 4, none⟩ = false := E6.out.frozen (r * 12 + 4)
                    have f5 : w6.frozen? ⟨g, r * 12 + 5, none⟩ = false := E6.out.frozen (r * 12 + 5)
                    have f6 : w6.frozen? ⟨g, r * 12 + 6, none⟩ = false := E6.out.frozen (r * 12 + 6)
                    have f7 : w6.frozen? ⟨g, r * 12 + 7, none⟩ = false := E6.out.frozen (r * 12 + 7)
                    have f8 : w6.frozen? ⟨g, r * 12 + 8, none⟩ = false := E6.out.frozen (r * 12 + 8)
                    have f9 : w6.frozen? ⟨g, r * 12 + 9, none⟩ = false := E6.out.frozen (r * 12 + 9)
                    have f10 : w6.frozen? ⟨g, r * 12 + 10, none⟩ = false := E6.out.frozen (r * 12 + 10)
                    have f11 : w6.frozen? ⟨g, r * 12 + 11, none⟩ = false := E6.out.frozen (r * 12 + 11)
                    go_wp2_with fail
                    refine hK.out _ _ (KEEP.out _ E6.out) (fun hHeld => ?_)
                    clear hK K
                    try simp only [List.getElem_toArray, List.getElem_cons_succ, List.getElem_cons_zero, Act.put, List.setIfInBounds_toArray, List.set_cons_zero, List.set_cons_succ]
                    refine wpAnyH_take (i := 19) (v := ?_) rfl (by kernel_rfl) (by kernel_rfl) (by kernel_rfl) (fun _ _ _ h => h) (Or.inl ⟨by rfl, ?_⟩) (by assumption) ?_
                    rotate_left
                    · intro w hSw; (try dsimp only at hSw); go_simp; (try (with_reducible rfl))
                    try simp only [List.getElem_toArray, List.getElem_cons_succ, List.getElem_cons_zero, Act.put, List.setIfInBounds_toArray, List.set_cons_zero, List.set_cons_succ]
                    refine wpAnyH_ready (rs := [20]) (by kernel_rfl) (by simp) ?_
                    refine AllReadyH.cons rfl (fun K hK => ?_) AllReadyH.nil
                    go_simp
                    have E7 : Hid (EqB ((((((((((((w6.setCell ⟨g, r * 12, none⟩ (.int .i64 (Z 0))).setCell ⟨g, r * 12 + 1, none⟩ (.int .i64 (Z 1))).setCell ⟨g, r * 12 + 2, none⟩ (.int .i64 (Z 2))).setCell ⟨g, r * 12 + 3, none⟩ (.int .i64 (Z 3))).setCell ⟨g, r * 12 + 4, none⟩ (.int .i64 (Z 4))).setCell ⟨g, r * 12 + 5, none⟩ (.int .i64 (Z 5))).setCell ⟨g, r * 12 + 6, none⟩ (.int .i64 (Z 6))).setCell ⟨g, r * 12 + 7, none⟩ (.int .i64 (Z 7))).setCell ⟨g, r * 12 + 8, none⟩ (.int .i64 (Z 8))).setCell ⟨g, r * 12 + 9, none⟩ (.int .i64 (Z 9))).setCell ⟨g, r * 12 + 10, none⟩ (.int .i64 (Z 10))).setCell ⟨g, r * 12 + 11, none⟩ (.int .i64 (Z 11))) g n (prtF c N (r + 1))) := (E6.out.row hr Z).congr (fun r' k _ _ => by
                      unfold prtF
                      by_cases e : r' = r
                      · subst e; rw [if_pos rfl, if_neg hrc, if_pos (by omega), HZ.out]
                      · rw [if_neg e]
                        by_cases e2 : r' = c
                        · rw [if_pos e2, if_pos e2]
                        · rw [if_neg e2, if_neg e2]
                          by_cases e3 : r' < r
                          · rw [if_pos e3, if_pos (by omega)]
                          · rw [if_neg e3, if_neg (by omega)])
                    have B7 : Hid (Below g w ((((((((((((w6.setCell ⟨g, r * 12, none⟩ (.int .i64 (Z 0))).setCell ⟨g, r * 12 + 1, none⟩ (.int .i64 (Z 1))).setCell ⟨g, r * 12 + 2, none⟩ (.int .i64 (Z 2))).setCell ⟨g, r * 12 + 3, none⟩ (.int .i64 (Z 3))).setCell ⟨g, r * 12 + 4, none⟩ (.int .i64 (Z 4))).setCell ⟨g, r * 12 + 5, none⟩ (.int .i64 (Z 5))).setCell ⟨g, r * 12 + 6, none⟩ (.int .i64 (Z 6))).setCell ⟨g, r * 12 + 7, none⟩ (.int .i64 (Z 7))).setCell ⟨g, r * 12 + 8, none⟩ (.int .i64 (Z 8))).setCell ⟨g, r * 12 + 9, none⟩ (.int .i64 (Z 9))).setCell ⟨g, r * 12 + 10, none⟩ (.int .i64 (Z 10))).setCell ⟨g, r * 12 + 11, none⟩ (.int .i64 (Z 11)))) := row_below B6.out r Z
                    refine hK.out _ _ (KEEP.out _ E7.out) (fun hHeld => ?_)
                    clear hK K
                    try simp only [List.getElem_toArray, List.getElem_cons_succ, List.getElem_cons_zero, Act.put, List.setIfInBounds_toArray, List.set_cons_zero, List.set_cons_succ]
                    refine wpAnyH_done (by kernel_rfl) ?_ _
                    clear E6 B6 E5 B5
                    clear q0 q1 q2 q3 q4 q5 q6 q7 q8 q9 q10 q11 f0 f1 f2 f3 f4 f5 f6 f7 f8 f9 f10 f11 hHeld
                    generalize ((((((((((((w6.setCell ⟨g, r * 12, none⟩ (.int .i64 (Z 0))).setCell ⟨g, r * 12 + 1, none⟩ (.int .i64 (Z 1))).setCell ⟨g, r * 12 + 2, none⟩ (.int .i64 (Z 2))).setCell ⟨g, r * 12 + 3, none⟩ (.int .i64 (Z 3))).setCell ⟨g, r * 12 + 4, none⟩ (.int .i64 (Z 4))).setCell ⟨g, r * 12 + 5, none⟩ (.int .i64 (Z 5))).setCell ⟨g, r * 12 + 6, none⟩ (.int .i64 (Z 6))).setCell ⟨g, r * 12 + 7, none⟩ (.int .i64 (Z 7))).setCell ⟨g, r * 12 + 8, none⟩ (.int .i64 (Z 8))).setCell ⟨g, r * 12 + 9, none⟩ (.int .i64 (Z 9))).setCell ⟨g, r * 12 + 10, none⟩ (.int .i64 (Z 10))).setCell ⟨g, r * 12 + 11, none⟩ (.int .i64 (Z 11))) = w7 at *
                    go_wp2
                    go_roundw
                    case rel => exact ⟨r + 1, by omega, by go_num, E7.out, B7.out⟩
                    case measure => simp [intOf]; omega
            · obtain rfl : n = r := by omega
              have E8 : Hid (EqB wr g n (slvF M (c + 1))) := HE.out.congr (fun r' k hr' _ => by rw [prtF_end r' k hr', ← HNN.out]; rfl)
              go_wp2
              go_roundw
              case rel => exact ⟨c + 1, by omega, by go_num, E8.out, HB2.out⟩
              case measure => simp [intOf]; omega
        · go_simp
          go_at_call 53
          refine (CI.out _).mono ?_
          rintro e w' ⟨rfl, rfl⟩
          go_wp2_with fail
          refine hK.out _ _ (trivial) (fun hHeld => ?_)
          clear hK K
          try simp only [List.getElem_toArray, List.getElem_cons_succ, List.getElem_cons_zero, Act.put, List.setIfInBounds_toArray, List.set_cons_zero, List.set_cons_succ]
          refine wpAnyH_ready (rs := [5]) (by kernel_rfl) (by simp) ?_
          refine AllReadyH.cons rfl (fun K hK => ?_) AllReadyH.nil
          go_simp
          refine hK.out _ _ (trivial) (fun hHeld => ?_)
          clear hK K
          try simp only [List.getElem_toArray, List.getElem_cons_succ, List.getElem_cons_zero, Act.put, List.setIfInBounds_toArray, List.set_cons_zero, List.set_cons_succ]
          refine wpAnyH_ready (rs := [14]) (by kernel_rfl) (by simp) ?_
          refine AllReadyH.cons rfl (fun K hK => ?_) AllReadyH.nil
          go_simp
          go_at_call 62
          refine (CT.out _).mono ?_
          rintro e w3 ⟨rfl, hb⟩
          have E3 : Hid (EqB w3 g n N) := (HN.out.drew).later hb
          have B3 : Hid (Below g w w3) := (HB.out.drew).trans (hb.mono (Nat.le_of_lt HN.out.lt))
          clear hb
          have q0 : w3.cell? ⟨g, c * 12, none⟩ = some (.int .i64 (N c 0)) := E3.out.cell (r := c) (k := 0) hc (by omega)
          have q1 : w3.cell? ⟨g, c * 12 + 1, none⟩ = some (.int .i64 (N c 1)) := E3.out.cell (r := c) (k := 1) hc (by omega)
          have q2 : w3.cell? ⟨g, c * 12 + 2, none⟩ = some (.int .i64 (N c 2)) := E3.out.cell (r := c) (k := 2) hc (by omega)
          have q3 : w3.cell? ⟨g, c * 12 + 3, none⟩ = some (.int .i64 (N c 3)) := E3.out.cell (r := c) (k := 3) hc (by omega)
          have q4 : w3.cell? ⟨g, c * 12 + 4, none⟩ = some (.int .i64 (N c 4)) := E3.out.cell (r := c) (k := 4) hc (by omega)
          have q5 : w3.cell? ⟨g, c * 12 + 5, none⟩ = some (.int .i64 (N c 5)) := E3.out.cell (r := c) (k := 5) hc (by omega)
          have q6 : w3.cell? ⟨g, c * 12 + 6, none⟩ = some (.int .i64 (N c 6)) := E3.out.cell (r := c) (k := 6) hc (by omega)
          have q7 : w3.cell? ⟨g, c * 12 + 7, none⟩ = some (.int .i64 (N c 7)) := E3.out.cell (r := c) (k := 7) hc (by omega)
          have q8 : w3.cell? ⟨g, c * 12 + 8, none⟩ = some (.int .i64 (N c 8)) := E3.out.cell (r := c) (k := 8) hc (by omega)
          have q9 : w3.cell? ⟨g, c * 12 + 9, none⟩ = some (.int .i64 (N c 9)) := E3.out.cell (r := c) (k := 9) hc (by omega)
          have q10 : w3.cell? ⟨g, c * 12 + 10, none⟩ = some (.int .i64 (N c 10)) := E3.out.cell (r := c) (k := 10) hc (by omega)
          have q11 : w3.cell? ⟨g, c * 12 + 11, none⟩ = some (.int .i64 (N c 11)) := E3.out.cell (r := c) (k := 11) hc (by omega)
          have f0 : w3.frozen? ⟨g, c * 12, none⟩ = false := E3.out.frozen (c * 12)
          have f1 : w3.frozen? ⟨g, c * 12 + 1, none⟩ = false := E3.out.frozen (c * 12 + 1)
          have f2 : w3.frozen? ⟨g, c * 12 + 2, none⟩ = false := E3.out.frozen (c * 12 + 2)
          have f3 : w3.frozen? ⟨g, c * 12 + 3, none⟩ = false := E3.out.frozen (c * 12 + 3)
          have f4 : w3.frozen? ⟨g, c * 12 + 4, none⟩ = false := E3.out.frozen (c * 12 + 4)
          have f5 : w3.frozen? ⟨g, c * 12 + 5, none⟩ = false := E3.out.frozen (c * 12 + 5)
          have f6 : w3.frozen? ⟨g, c * 12 + 6, none⟩ = false := E3.out.frozen (c * 12 + 6)
          have f7 : w3.frozen? ⟨g, c * 12 + 7, none⟩ = false := E3.out.frozen (c * 12 + 7)
          have f8 : w3.frozen? ⟨g, c * 12 + 8, none⟩ = false := E3.out.frozen (c * 12 + 8)
          have f9 : w3.frozen? ⟨g, c * 12 + 9, none⟩ = false := E3.out.frozen (c * 12 + 9)
          have f10 : w3.frozen? ⟨g, c * 12 + 10, none⟩ = false := E3.out.frozen (c * 12 + 10)
          have f11 : w3.frozen? ⟨g, c * 12 + 11, none⟩ = false := E3.out.frozen (c * 12 + 11)
          go_wp2_with fail
          refine hK.out _ _ (trivial) (fun hHeld => ?_)
          clear hK K
          try simp only [List.getElem_toArray, List.getElem_cons_succ, List.getElem_cons_zero, Act.put, List.setIfInBounds_toArray, List.set_cons_zero, List.set_cons_succ]
          refine wpAnyH_take (i := 15) (v := ?_) rfl (by kernel_rfl) (by kernel_rfl) (by kernel_rfl) (fun _ _ _ h => h) (Or.inl ⟨by rfl, ?_⟩) (by assumption) ?_
          rotate_left
          · intro w hSw; (try dsimp only at hSw); go_simp; (try (with_reducible rfl))
          try simp only [List.getElem_toArray, List.getElem_cons_succ, List.getElem_cons_zero, Act.put, List.setIfInBounds_toArray, List.set_cons_zero, List.set_cons_succ]
          refine wpAnyH_ready (rs := [16]) (by kernel_rfl) (by simp) ?_
          refine AllReadyH.cons rfl (fun K hK => ?_) AllReadyH.nil
          go_simp
          refine hK.out _ _ (trivial) (fun hHeld => ?_)
          clear hK K
          try simp only [List.getElem_toArray, List.getElem_cons_succ, List.getElem_cons_zero, Act.put, List.setIfInBounds_toArray, List.set_cons_zero, List.set_cons_succ]
          refine wpAnyH_done (by kernel_rfl) ?_ _
          have E4 : Hid (EqB ((((((((((((w3.setCell ⟨g, c * 12, none⟩ (.int .i64 (P 0))).setCell ⟨g, c * 12 + 1, none⟩ (.int .i64 (P 1))).setCell ⟨g, c * 12 + 2, none⟩ (.int .i64 (P 2))).setCell ⟨g, c * 12 + 3, none⟩ (.int .i64 (P 3))).setCell ⟨g, c * 12 + 4, none⟩ (.int .i64 (P 4))).setCell ⟨g, c * 12 + 5, none⟩ (.int .i64 (P 5))).setCell ⟨g, c * 12 + 6, none⟩ (.int .i64 (P 6))).setCell ⟨g, c * 12 + 7, none⟩ (.int .i64 (P 7))).setCell ⟨g, c * 12 + 8, none⟩ (.int .i64 (P 8))).setCell ⟨g, c * 12 + 9, none⟩ (.int .i64 (P 9))).setCell ⟨g, c * 12 + 10, none⟩ (.int .i64 (P 10))).setCell ⟨g, c * 12 + 11, none⟩ (.int .i64 (P 11))) g n (prtF c N 0)) := (E3.out.row hc P).congr (fun r k _ _ => by
            unfold prtF
            by_cases e : r = c
            · rw [if_pos e, if_pos e, HP.out]
            · rw [if_neg e, if_neg e, if_neg (by omega)])
          have B4 : Hid (Below g w ((((((((((((w3.setCell ⟨g, c * 12, none⟩ (.int .i64 (P 0))).setCell ⟨g, c * 12 + 1, none⟩ (.int .i64 (P 1))).setCell ⟨g, c * 12 + 2, none⟩ (.int .i64 (P 2))).setCell ⟨g, c * 12 + 3, none⟩ (.int .i64 (P 3))).setCell ⟨g, c * 12 + 4, none⟩ (.int .i64 (P 4))).setCell ⟨g, c * 12 + 5, none⟩ (.int .i64 (P 5))).setCell ⟨g, c * 12 + 6, none⟩ (.int .i64 (P 6))).setCell ⟨g, c * 12 + 7, none⟩ (.int .i64 (P 7))).setCell ⟨g, c * 12 + 8, none⟩ (.int .i64 (P 8))).setCell ⟨g, c * 12 + 9, none⟩ (.int .i64 (P 9))).setCell ⟨g, c * 12 + 10, none⟩ (.int .i64 (P 10))).setCell ⟨g, c * 12 + 11, none⟩ (.int .i64 (P 11)))) := row_below B3.out c P
          clear E3 B3
          clear q0 q1 q2 q3 q4 q5 q6 q7 q8 q9 q10 q11 f0 f1 f2 f3 f4 f5 f6 f7 f8 f9 f10 f11 x0 x1 x2 x3 x4 x5 x6 x7 x8 x9 x10 x11
          generalize ((((((((((((w3.setCell ⟨g, c * 12, none⟩ (.int .i64 (P 0))).setCell ⟨g, c * 12 + 1, none⟩ (.int .i64 (P 1))).setCell ⟨g, c * 12 + 2, none⟩ (.int .i64 (P 2))).setCell ⟨g, c * 12 + 3, none⟩ (.int .i64 (P 3))).setCell ⟨g, c * 12 + 4, none⟩ (.int .i64 (P 4))).setCell ⟨g, c * 12 + 5, none⟩ (.int .i64 (P 5))).setCell ⟨g, c * 12 + 6, none⟩ (.int .i64 (P 6))).setCell ⟨g, c * 12 + 7, none⟩ (.int .i64 (P 7))).setCell ⟨g, c * 12 + 8, none⟩ (.int .i64 (P 8))).setCell ⟨g, c * 12 + 9, none⟩ (.int .i64 (P 9))).setCell ⟨g, c * 12 + 10, none⟩ (.int .i64 (P 10))).setCell ⟨g, c * 12 + 11, none⟩ (.int .i64 (P 11))) = w4 at *
          go_wp2
          go_loopw [27] (fun i wr => ∃ r : Nat, r ≤ n ∧ i = .int .i64 r ∧ Hid (EqB wr g n (prtF c N r)) ∧ Hid (Below g w wr)) (fun i _ => n - (intOf i).toNat)
          case atStart => exact ⟨0, Nat.zero_le _, rfl, E4.out, B4.out⟩
          case round =>
            clear E4 B4
            obtain ⟨r, hrn, rfl, HE, HB2⟩ := hrel
            by_cases hr : r < n
            · have hrI : (r : Int) < (n : Int) := by omega
              have hr4 : (r : Int) < 4 := by omega
              by_cases hrc : r = c
              · have hd : ((r : Int) != (c : Int)) = false := by simp; omega
                have E7 : Hid (EqB wr g n (prtF c N (r + 1))) := HE.out.congr (fun r' k _ _ => by
                  unfold prtF
                  by_cases e : r' = c
                  · rw [if_pos e, if_pos e]
                  · rw [if_neg e, if_neg e]
                    by_cases e3 : r' < r
                    · rw [if_pos e3, if_pos (by omega)]
                    · rw [if_neg e3, if_neg (by omega)])
                clear hrc
                go_wp2
                go_roundw
                case rel => exact ⟨r + 1, by omega, by go_num, E7.out, HB2.out⟩
                case measure => simp [intOf]; omega
              · have hd : ((r : Int) != (c : Int)) = true := by simp; omega
                obtain ⟨Z, hZ⟩ : ∃ Z, (fun k => (N r k - P k * N r c % 65537) % 65537) = Z := ⟨_, rfl⟩
                have HZ : Hid (∀ k, Z k = (N r k - N c k * invT (N c c) % 65537 * N r c % 65537) % 65537) := fun k => by rw [← hZ]; show (N r k - P k * N r c % 65537) % 65537 = _; rw [HP.out]
                have CT2 : Hid (∀ W, Calls Tryd.prog 62 #[.agg (eRow P), .int .i64 (N r c)] W fun e w' => e = .returned (.agg (eRow (fun k => P k * N r c % 65537))) ∧ Below W.heap.size W w') := fun W => times_any P (N r c) W HPB.out (HNB.out r c)
                have CM : Hid (∀ W, Calls Tryd.prog 63 #[.agg (eRow (fun k => N r k)), .agg (eRow (fun k => P k * N r c % 65537))] W fun e w' => e = .returned (.agg (eRow Z)) ∧ Below W.heap.size W w') := fun W => by
                  rw [← hZ]; exact minus_any (fun k => N r k) (fun k => P k * N r c % 65537) W (fun k => HNB.out r k) (fun k => emod_bd _)
                have KEEP : Hid (∀ (W : World) {R : Nat}, EqB W g n (prtF c N R) → W.cell? ⟨g, c * 12, none⟩ = some (.int .i64 (P 0)) ∧ W.cell? ⟨g, c * 12 + 1, none⟩ = some (.int .i64 (P 1)) ∧ W.cell? ⟨g, c * 12 + 2, none⟩ = some (.int .i64 (P 2)) ∧ W.cell? ⟨g, c * 12 + 3, none⟩ = some (.int .i64 (P 3)) ∧ W.cell? ⟨g, c * 12 + 4, none⟩ = some (.int .i64 (P 4)) ∧ W.cell? ⟨g, c * 12 + 5, none⟩ = some (.int .i64 (P 5)) ∧ W.cell? ⟨g, c * 12 + 6, none⟩ = some (.int .i64 (P 6)) ∧ W.cell? ⟨g, c * 12 + 7, none⟩ = some (.int .i64 (P 7)) ∧ W.cell? ⟨g, c * 12 + 8, none⟩ = some (.int .i64 (P 8)) ∧ W.cell? ⟨g, c * 12 + 9, none⟩ = some (.int .i64 (P 9)) ∧ W.cell? ⟨g, c * 12 + 10, none⟩ = some (.int .i64 (P 10)) ∧ W.cell? ⟨g, c * 12 + 11, none⟩ = some (.int .i64 (P 11))) := fun W R h => ⟨(h.cell hc (show 0 < 12 by omega)).trans (by rw [prtF_c, HP.out]), (h.cell hc (show 1 < 12 by omega)).trans (by rw [prtF_c, HP.out]), (h.cell hc (show 2 < 12 by omega)).trans (by rw [prtF_c, HP.out]), (h.cell hc (show 3 < 12 by omega)).trans (by rw [prtF_c, HP.out]), (h.cell hc (show 4 < 12 by omega)).trans (by rw [prtF_c, HP.out]), (h.cell hc (show 5 < 12 by omega)).trans (by rw [prtF_c, HP.out]), (h.cell hc (show 6 < 12 by omega)).trans (by rw [prtF_c, HP.out]), (h.cell hc (show 7 < 12 by omega)).trans (by rw [prtF_c, HP.out]), (h.cell hc (show 8 < 12 by omega)).trans (by rw [prtF_c, HP.out]), (h.cell hc (show 9 < 12 by omega)).trans (by rw [prtF_c, HP.out]), (h.cell hc (show 10 < 12 by omega)).trans (by rw [prtF_c, HP.out]), (h.cell hc (show 11 < 12 by omega)).trans (by rw [prtF_c, HP.out])⟩
                have HRC : Hid (∀ W, EqB W g n (prtF c N r) → ∀ k, k < 12 → W.cell? ⟨g, r * 12 + k, none⟩ = some (.int .i64 (N r k))) := fun W h k hk => by rw [h.cell hr hk, prtF_r k hrc]
                have hwt : wr.drew.cell? ⟨g, r * 12 + c, none⟩ = some (.int .i64 (N r c)) := HRC.out wr HE.out c (by omega)
                have x0 : wr.drew.cell? ⟨g, r * 12, none⟩ = some (.int .i64 (N r 0)) := HRC.out wr HE.out 0 (by omega)
                have x1 : wr.drew.cell? ⟨g, r * 12 + 1, none⟩ = some (.int .i64 (N r 1)) := HRC.out wr HE.out 1 (by omega)
                have x2 : wr.drew.cell? ⟨g, r * 12 + 2, none⟩ = some (.int .i64 (N r 2)) := HRC.out wr HE.out 2 (by omega)
                have x3 : wr.drew.cell? ⟨g, r * 12 + 3, none⟩ = some (.int .i64 (N r 3)) := HRC.out wr HE.out 3 (by omega)
                have x4 : wr.drew.cell? ⟨g, r * 12 + 4, none⟩ = some (.int .i64 (N r 4)) := HRC.out wr HE.out 4 (by omega)
                have x5 : wr.drew.cell? ⟨g, r * 12 + 5, none⟩ = some (.int .i64 (N r 5)) := HRC.out wr HE.out 5 (by omega)
                have x6 : wr.drew.cell? ⟨g, r * 12 + 6, none⟩ = some (.int .i64 (N r 6)) := HRC.out wr HE.out 6 (by omega)
                have x7 : wr.drew.cell? ⟨g, r * 12 + 7, none⟩ = some (.int .i64 (N r 7)) := HRC.out wr HE.out 7 (by omega)
                have x8 : wr.drew.cell? ⟨g, r * 12 + 8, none⟩ = some (.int .i64 (N r 8)) := HRC.out wr HE.out 8 (by omega)
                have x9 : wr.drew.cell? ⟨g, r * 12 + 9, none⟩ = some (.int .i64 (N r 9)) := HRC.out wr HE.out 9 (by omega)
                have x10 : wr.drew.cell? ⟨g, r * 12 + 10, none⟩ = some (.int .i64 (N r 10)) := HRC.out wr HE.out 10 (by omega)
                have x11 : wr.drew.cell? ⟨g, r * 12 + 11, none⟩ = some (.int .i64 (N r 11)) := HRC.out wr HE.out 11 (by omega)
                clear hZ
                go_upto_region 8 with fail
                refine wp_region_held_drew (S := (fun W : World => W.cell? ⟨g, c * 12, none⟩ = some (.int .i64 (P 0)) ∧ W.cell? ⟨g, c * 12 + 1, none⟩ = some (.int .i64 (P 1)) ∧ W.cell? ⟨g, c * 12 + 2, none⟩ = some (.int .i64 (P 2)) ∧ W.cell? ⟨g, c * 12 + 3, none⟩ = some (.int .i64 (P 3)) ∧ W.cell? ⟨g, c * 12 + 4, none⟩ = some (.int .i64 (P 4)) ∧ W.cell? ⟨g, c * 12 + 5, none⟩ = some (.int .i64 (P 5)) ∧ W.cell? ⟨g, c * 12 + 6, none⟩ = some (.int .i64 (P 6)) ∧ W.cell? ⟨g, c * 12 + 7, none⟩ = some (.int .i64 (P 7)) ∧ W.cell? ⟨g, c * 12 + 8, none⟩ = some (.int .i64 (P 8)) ∧ W.cell? ⟨g, c * 12 + 9, none⟩ = some (.int .i64 (P 9)) ∧ W.cell? ⟨g, c * 12 + 10, none⟩ = some (.int .i64 (P 10)) ∧ W.cell? ⟨g, c * 12 + 11, none⟩ = some (.int .i64 (P 11)))) (by kernel_rfl) (KEEP.out _ HE.out.drew) ?_
                intro hHeld
                refine wpAnyH_take (i := 0) (v := ?_) rfl (by kernel_rfl) (by kernel_rfl) (by kernel_rfl) (fun _ _ _ h => h) (Or.inl ⟨by rfl, ?_⟩) (by assumption) ?_
                rotate_left
                · intro w hSw; (try dsimp only at hSw); go_simp; (try (with_reducible rfl))
                try simp only [List.getElem_toArray, List.getElem_cons_succ, List.getElem_cons_zero, Act.put, List.setIfInBounds_toArray, List.set_cons_zero, List.set_cons_succ]
                refine wpAnyH_take (i := 1) (v := ?_) rfl (by kernel_rfl) (by kernel_rfl) (by kernel_rfl) (fun _ _ _ h => h) (Or.inl ⟨by rfl, ?_⟩) (by assumption) ?_
                rotate_left
                · intro w hSw; (try dsimp only at hSw); go_simp; (try (with_reducible rfl))
                try simp only [List.getElem_toArray, List.getElem_cons_succ, List.getElem_cons_zero, Act.put, List.setIfInBounds_toArray, List.set_cons_zero, List.set_cons_succ]
                refine wpAnyH_take (i := 2) (v := ?_) rfl (by kernel_rfl) (by kernel_rfl) (by kernel_rfl) (fun _ _ _ h => h) (Or.inl ⟨by rfl, ?_⟩) (by assumption) ?_
                rotate_left
                · intro w hSw; (try dsimp only at hSw); go_simp; (try (with_reducible rfl))
                try simp only [List.getElem_toArray, List.getElem_cons_succ, List.getElem_cons_zero, Act.put, List.setIfInBounds_toArray, List.set_cons_zero, List.set_cons_succ]
                refine wpAnyH_take (i := 3) (v := ?_) rfl (by kernel_rfl) (by kernel_rfl) (by kernel_rfl) (fun _ _ _ h => h) (Or.inl ⟨by rfl, ?_⟩) (by assumption) ?_
                rotate_left
                · intro w hSw; (try dsimp only at hSw); go_simp; (try (with_reducible rfl))
                try simp only [List.getElem_toArray, List.getElem_cons_succ, List.getElem_cons_zero, Act.put, List.setIfInBounds_toArray, List.set_cons_zero, List.set_cons_succ]
                refine wpAnyH_take (i := 4) (v := ?_) rfl (by kernel_rfl) (by kernel_rfl) (by kernel_rfl) (fun _ _ _ h => h) (Or.inl ⟨by rfl, ?_⟩) (by assumption) ?_
                rotate_left
                · intro w hSw; (try dsimp only at hSw); go_simp; (try (with_reducible rfl))
                try simp only [List.getElem_toArray, List.getElem_cons_succ, List.getElem_cons_zero, Act.put, List.setIfInBounds_toArray, List.set_cons_zero, List.set_cons_succ]
                refine wpAnyH_take (i := 6) (v := ?_) rfl (by kernel_rfl) (by kernel_rfl) (by kernel_rfl) (fun _ _ _ h => h) (Or.inl ⟨by rfl, ?_⟩) (by assumption) ?_
                rotate_left
                · intro w hSw; (try dsimp only at hSw); go_simp; (try (with_reducible rfl))
                try simp only [List.getElem_toArray, List.getElem_cons_succ, List.getElem_cons_zero, Act.put, List.setIfInBounds_toArray, List.set_cons_zero, List.set_cons_succ]
                refine wpAnyH_take (i := 7) (v := ?_) rfl (by kernel_rfl) (by kernel_rfl) (by kernel_rfl) (fun _ _ _ h => h) (Or.inl ⟨by rfl, ?_⟩) (by assumption) ?_
                rotate_left
                · intro w hSw; (try dsimp only at hSw); go_simp; (try (with_reducible rfl))
                try simp only [List.getElem_toArray, List.getElem_cons_succ, List.getElem_cons_zero, Act.put, List.setIfInBounds_toArray, List.set_cons_zero, List.set_cons_succ]
                refine wpAnyH_take (i := 8) (v := ?_) rfl (by kernel_rfl) (by kernel_rfl) (by kernel_rfl) (fun _ _ _ h => h) (Or.inl ⟨by rfl, ?_⟩) (by assumption) ?_
                rotate_left
                · intro w hSw; (try dsimp only at hSw); go_simp; (try (with_reducible rfl))
                try simp only [List.getElem_toArray, List.getElem_cons_succ, List.getElem_cons_zero, Act.put, List.setIfInBounds_toArray, List.set_cons_zero, List.set_cons_succ]
                refine wpAnyH_take (i := 9) (v := ?_) rfl (by kernel_rfl) (by kernel_rfl) (by kernel_rfl) (fun _ _ _ h => h) (Or.inl ⟨by rfl, ?_⟩) (by assumption) ?_
                rotate_left
                · intro w hSw; (try dsimp only at hSw); go_simp; (try (with_reducible rfl))
                try simp only [List.getElem_toArray, List.getElem_cons_succ, List.getElem_cons_zero, Act.put, List.setIfInBounds_toArray, List.set_cons_zero, List.set_cons_succ]
                refine wpAnyH_take (i := 10) (v := ?_) rfl (by kernel_rfl) (by kernel_rfl) (by kernel_rfl) (fun _ _ _ h => h) (Or.inl ⟨by rfl, ?_⟩) (by assumption) ?_
                rotate_left
                · intro w hSw; (try dsimp only at hSw); go_simp; (try (with_reducible rfl))
                try simp only [List.getElem_toArray, List.getElem_cons_succ, List.getElem_cons_zero, Act.put, List.setIfInBounds_toArray, List.set_cons_zero, List.set_cons_succ]
                refine wpAnyH_take (i := 11) (v := ?_) rfl (by kernel_rfl) (by kernel_rfl) (by kernel_rfl) (fun _ _ _ h => h) (Or.inl ⟨by rfl, ?_⟩) (by assumption) ?_
                rotate_left
                · intro w hSw; (try dsimp only at hSw); go_simp; (try (with_reducible rfl))
                try simp only [List.getElem_toArray, List.getElem_cons_succ, List.getElem_cons_zero, Act.put, List.setIfInBounds_toArray, List.set_cons_zero, List.set_cons_succ]
                refine wpAnyH_take (i := 12) (v := ?_) rfl (by kernel_rfl) (by kernel_rfl) (by kernel_rfl) (fun _ _ _ h => h) (Or.inl ⟨by rfl, ?_⟩) (by assumption) ?_
                rotate_left
                · intro w hSw; (try dsimp only at hSw); go_simp; (try (with_reducible rfl))
                try simp only [List.getElem_toArray, List.getElem_cons_succ, List.getElem_cons_zero, Act.put, List.setIfInBounds_toArray, List.set_cons_zero, List.set_cons_succ]
                refine wpAnyH_take (i := 13) (v := ?_) rfl (by kernel_rfl) (by kernel_rfl) (by kernel_rfl) (fun _ _ _ h => h) (Or.inl ⟨by rfl, ?_⟩) (by assumption) ?_
                rotate_left
                · intro w hSw; (try dsimp only at hSw); go_simp; (try (with_reducible rfl))
                try simp only [List.getElem_toArray, List.getElem_cons_succ, List.getElem_cons_zero, Act.put, List.setIfInBounds_toArray, List.set_cons_zero, List.set_cons_succ]
                refine wpAnyH_take (i := 14) (v := ?_) rfl (by kernel_rfl) (by kernel_rfl) (by kernel_rfl) (fun _ _ _ h => h) (Or.inl ⟨by rfl, ?_⟩) (by assumption) ?_
                rotate_left
                · intro w hSw; (try dsimp only at hSw); go_simp; (try (with_reducible rfl))
                try simp only [List.getElem_toArray, List.getElem_cons_succ, List.getElem_cons_zero, Act.put, List.setIfInBounds_toArray, List.set_cons_zero, List.set_cons_succ]
                refine wpAnyH_take (i := 15) (v := ?_) rfl (by kernel_rfl) (by kernel_rfl) (by kernel_rfl) (fun _ _ _ h => h) (Or.inl ⟨by rfl, ?_⟩) (by assumption) ?_
                rotate_left
                · intro w hSw; (try dsimp only at hSw); go_simp; (try (with_reducible rfl))
                try simp only [List.getElem_toArray, List.getElem_cons_succ, List.getElem_cons_zero, Act.put, List.setIfInBounds_toArray, List.set_cons_zero, List.set_cons_succ]
                refine wpAnyH_ready (rs := [5, 16]) (by kernel_rfl) (by simp) ?_
                refine AllReadyH.cons rfl (fun K hK => ?_) (AllReadyH.cons rfl (fun K hK => ?_) AllReadyH.nil)
                · go_simp
                  refine hK.out _ _ (KEEP.out _ HE.out.drew) (fun hHeld => ?_)
                  clear hK K
                  try simp only [List.getElem_toArray, List.getElem_cons_succ, List.getElem_cons_zero, Act.put, List.setIfInBounds_toArray, List.set_cons_zero, List.set_cons_succ]
                  refine wpAnyH_ready (rs := [16]) (by kernel_rfl) (by simp) ?_
                  refine AllReadyH.cons rfl (fun K hK => ?_) AllReadyH.nil
                  go_simp
                  refine hK.out _ _ (KEEP.out _ HE.out.drew) (fun hHeld => ?_)
                  clear hK K
                  try simp only [List.getElem_toArray, List.getElem_cons_succ, List.getElem_cons_zero, Act.put, List.setIfInBounds_toArray, List.set_cons_zero, List.set_cons_succ]
                  refine wpAnyH_ready (rs := [17]) (by kernel_rfl) (by simp) ?_
                  refine AllReadyH.cons rfl (fun K hK => ?_) AllReadyH.nil
                  go_simp
                  go_at_call 62
                  refine (CT2.out _).mono ?_
                  rintro e w5 ⟨rfl, hb⟩
                  have E5 : Hid (EqB w5 g n (prtF c N r)) := (HE.out.drew).later hb
                  have B5 : Hid (Below g w w5) := (HB2.out.drew).trans (hb.mono (Nat.le_of_lt HE.out.lt))
                  clear hb
                  have q0 : w5.cell? ⟨g, r * 12, none⟩ = some (.int .i64 (N r 0)) := HRC.out _ E5.out 0 (by omega)
                  have q1 : w5.cell? ⟨g, r * 12 + 1, none⟩ = some (.int .i64 (N r 1)) := HRC.out _ E5.out 1 (by omega)
                  have q2 : w5.cell? ⟨g, r * 12 + 2, none⟩ = some (.int .i64 (N r 2)) := HRC.out _ E5.out 2 (by omega)
                  have q3 : w5.cell? ⟨g, r * 12 + 3, none⟩ = some (.int .i64 (N r 3)) := HRC.out _ E5.out 3 (by omega)
                  have q4 : w5.cell? ⟨g, r * 12 + 4, none⟩ = some (.int .i64 (N r 4)) := HRC.out _ E5.out 4 (by omega)
                  have q5 : w5.cell? ⟨g, r * 12 + 5, none⟩ = some (.int .i64 (N r 5)) := HRC.out _ E5.out 5 (by omega)
                  have q6 : w5.cell? ⟨g, r * 12 + 6, none⟩ = some (.int .i64 (N r 6)) := HRC.out _ E5.out 6 (by omega)
                  have q7 : w5.cell? ⟨g, r * 12 + 7, none⟩ = some (.int .i64 (N r 7)) := HRC.out _ E5.out 7 (by omega)
                  have q8 : w5.cell? ⟨g, r * 12 + 8, none⟩ = some (.int .i64 (N r 8)) := HRC.out _ E5.out 8 (by omega)
                  have q9 : w5.cell? ⟨g, r * 12 + 9, none⟩ = some (.int .i64 (N r 9)) := HRC.out _ E5.out 9 (by omega)
                  have q10 : w5.cell? ⟨g, r * 12 + 10, none⟩ = some (.int .i64 (N r 10)) := HRC.out _ E5.out 10 (by omega)
                  have q11 : w5.cell? ⟨g, r * 12 + 11, none⟩ = some (.int .i64 (N r 11)) := HRC.out _ E5.out 11 (by omega)
                  go_wp2_with fail
                  refine hK.out _ _ (KEEP.out _ E5.out) (fun hHeld => ?_)
                  clear hK K
                  try simp only [List.getElem_toArray, List.getElem_cons_succ, List.getElem_cons_zero, Act.put, List.setIfInBounds_toArray, List.set_cons_zero, List.set_cons_succ]
                  refine wpAnyH_ready (rs := [18]) (by kernel_rfl) (by simp) ?_
                  refine AllReadyH.cons rfl (fun K hK => ?_) AllReadyH.nil
                  go_simp
                  go_at_call 63
                  refine (CM.out _).mono ?_
                  rintro e w6 ⟨rfl, hb⟩
                  have E6 : Hid (EqB w6 g n (prtF c N r)) := E5.out.later hb
                  have B6 : Hid (Below g w w6) := B5.out.trans (hb.mono (Nat.le_of_lt E5.out.lt))
                  clear hb
                  clear q0 q1 q2 q3 q4 q5 q6 q7 q8 q9 q10 q11 x0 x1 x2 x3 x4 x5 x6 x7 x8 x9 x10 x11
                  have q0 : w6.cell? ⟨g, r * 12, none⟩ = some (.int .i64 (N r 0)) := HRC.out _ E6.out 0 (by omega)
                  have q1 : w6.cell? ⟨g, r * 12 + 1, none⟩ = some (.int .i64 (N r 1)) := HRC.out _ E6.out 1 (by omega)
                  have q2 : w6.cell? ⟨g, r * 12 + 2, none⟩ = some (.int .i64 (N r 2)) := HRC.out _ E6.out 2 (by omega)
                  have q3 : w6.cell? ⟨g, r * 12 + 3, none⟩ = some (.int .i64 (N r 3)) := HRC.out _ E6.out 3 (by omega)
                  have q4 : w6.cell? ⟨g, r * 12 + 4, none⟩ = some (.int .i64 (N r 4)) := HRC.out _ E6.out 4 (by omega)
                  have q5 : w6.cell? ⟨g, r * 12 + 5, none⟩ = some (.int .i64 (N r 5)) := HRC.out _ E6.out 5 (by omega)
                  have q6 : w6.cell? ⟨g, r * 12 + 6, none⟩ = some (.int .i64 (N r 6)) := HRC.out _ E6.out 6 (by omega)
                  have q7 : w6.cell? ⟨g, r * 12 + 7, none⟩ = some (.int .i64 (N r 7)) := HRC.out _ E6.out 7 (by omega)
                  have q8 : w6.cell? ⟨g, r * 12 + 8, none⟩ = some (.int .i64 (N r 8)) := HRC.out _ E6.out 8 (by omega)
                  have q9 : w6.cell? ⟨g, r * 12 + 9, none⟩ = some (.int .i64 (N r 9)) := HRC.out _ E6.out 9 (by omega)
                  have q10 : w6.cell? ⟨g, r * 12 + 10, none⟩ = some (.int .i64 (N r 10)) := HRC.out _ E6.out 10 (by omega)
                  have q11 : w6.cell? ⟨g, r * 12 + 11, none⟩ = some (.int .i64 (N r 11)) := HRC.out _ E6.out 11 (by omega)
                  have f0 : w6.frozen? ⟨g, r * 12, none⟩ = false := E6.out.frozen (r * 12)
                  have f1 : w6.frozen? ⟨g, r * 12 + 1, none⟩ = false := E6.out.frozen (r * 12 + 1)
                  have f2 : w6.frozen? ⟨g, r * 12 + 2, none⟩ = false := E6.out.frozen (r * 12 + 2)
                  have f3 : w6.frozen? ⟨g, r * 12 + 3, none⟩ = false := E6.out.frozen (r * 12 + 3)
                  have f4 : w6.frozen? ⟨g, r * 12 + 4, none⟩ = false := E6.out.frozen (r * 12 + 4)
                  have f5 : w6.frozen? ⟨g, r * 12 + 5, none⟩ = false := E6.out.frozen (r * 12 + 5)
                  have f6 : w6.frozen? ⟨g, r * 12 + 6, none⟩ = false := E6.out.frozen (r * 12 + 6)
                  have f7 : w6.frozen? ⟨g, r * 12 + 7, none⟩ = false := E6.out.frozen (r * 12 + 7)
                  have f8 : w6.frozen? ⟨g, r * 12 + 8, none⟩ = false := E6.out.frozen (r * 12 + 8)
                  have f9 : w6.frozen? ⟨g, r * 12 + 9, none⟩ = false := E6.out.frozen (r * 12 + 9)
                  have f10 : w6.frozen? ⟨g, r * 12 + 10, none⟩ = false := E6.out.frozen (r * 12 + 10)
                  have f11 : w6.frozen? ⟨g, r * 12 + 11, none⟩ = false := E6.out.frozen (r * 12 + 11)
                  go_wp2_with fail
                  refine hK.out _ _ (KEEP.out _ E6.out) (fun hHeld => ?_)
                  clear hK K
                  try simp only [List.getElem_toArray, List.getElem_cons_succ, List.getElem_cons_zero, Act.put, List.setIfInBounds_toArray, List.set_cons_zero, List.set_cons_succ]
                  refine wpAnyH_take (i := 19) (v := ?_) rfl (by kernel_rfl) (by kernel_rfl) (by kernel_rfl) (fun _ _ _ h => h) (Or.inl ⟨by rfl, ?_⟩) (by assumption) ?_
                  rotate_left
                  · intro w hSw; (try dsimp only at hSw); go_simp; (try (with_reducible rfl))
                  try simp only [List.getElem_toArray, List.getElem_cons_succ, List.getElem_cons_zero, Act.put, List.setIfInBounds_toArray, List.set_cons_zero, List.set_cons_succ]
                  refine wpAnyH_ready (rs := [20]) (by kernel_rfl) (by simp) ?_
                  refine AllReadyH.cons rfl (fun K hK => ?_) AllReadyH.nil
                  go_simp
                  have E7 : Hid (EqB ((((((((((((w6.setCell ⟨g, r * 12, none⟩ (.int .i64 (Z 0))).setCell ⟨g, r * 12 + 1, none⟩ (.int .i64 (Z 1))).setCell ⟨g, r * 12 + 2, none⟩ (.int .i64 (Z 2))).setCell ⟨g, r * 12 + 3, none⟩ (.int .i64 (Z 3))).setCell ⟨g, r * 12 + 4, none⟩ (.int .i64 (Z 4))).setCell ⟨g, r * 12 + 5, none⟩ (.int .i64 (Z 5))).setCell ⟨g, r * 12 + 6, none⟩ (.int .i64 (Z 6))).setCell ⟨g, r * 12 + 7, none⟩ (.int .i64 (Z 7))).setCell ⟨g, r * 12 + 8, none⟩ (.int .i64 (Z 8))).setCell ⟨g, r * 12 + 9, none⟩ (.int .i64 (Z 9))).setCell ⟨g, r * 12 + 10, none⟩ (.int .i64 (Z 10))).setCell ⟨g, r * 12 + 11, none⟩ (.int .i64 (Z 11))) g n (prtF c N (r + 1))) := (E6.out.row hr Z).congr (fun r' k _ _ => by
                    unfold prtF
                    by_cases e : r' = r
                    · subst e; rw [if_pos rfl, if_neg hrc, if_pos (by omega), HZ.out]
                    · rw [if_neg e]
                      by_cases e2 : r' = c
                      · rw [if_pos e2, if_pos e2]
                      · rw [if_neg e2, if_neg e2]
                        by_cases e3 : r' < r
                        · rw [if_pos e3, if_pos (by omega)]
                        · rw [if_neg e3, if_neg (by omega)])
                  have B7 : Hid (Below g w ((((((((((((w6.setCell ⟨g, r * 12, none⟩ (.int .i64 (Z 0))).setCell ⟨g, r * 12 + 1, none⟩ (.int .i64 (Z 1))).setCell ⟨g, r * 12 + 2, none⟩ (.int .i64 (Z 2))).setCell ⟨g, r * 12 + 3, none⟩ (.int .i64 (Z 3))).setCell ⟨g, r * 12 + 4, none⟩ (.int .i64 (Z 4))).setCell ⟨g, r * 12 + 5, none⟩ (.int .i64 (Z 5))).setCell ⟨g, r * 12 + 6, none⟩ (.int .i64 (Z 6))).setCell ⟨g, r * 12 + 7, none⟩ (.int .i64 (Z 7))).setCell ⟨g, r * 12 + 8, none⟩ (.int .i64 (Z 8))).setCell ⟨g, r * 12 + 9, none⟩ (.int .i64 (Z 9))).setCell ⟨g, r * 12 + 10, none⟩ (.int .i64 (Z 10))).setCell ⟨g, r * 12 + 11, none⟩ (.int .i64 (Z 11)))) := row_below B6.out r Z
                  refine hK.out _ _ (KEEP.out _ E7.out) (fun hHeld => ?_)
                  clear hK K
                  try simp only [List.getElem_toArray, List.getElem_cons_succ, List.getElem_cons_zero, Act.put, List.setIfInBounds_toArray, List.set_cons_zero, List.set_cons_succ]
                  refine wpAnyH_done (by kernel_rfl) ?_ _
                  clear E6 B6 E5 B5
                  clear q0 q1 q2 q3 q4 q5 q6 q7 q8 q9 q10 q11 f0 f1 f2 f3 f4 f5 f6 f7 f8 f9 f10 f11 hHeld
                  generalize ((((((((((((w6.setCell ⟨g, r * 12, none⟩ (.int .i64 (Z 0))).setCell ⟨g, r * 12 + 1, none⟩ (.int .i64 (Z 1))).setCell ⟨g, r * 12 + 2, none⟩ (.int .i64 (Z 2))).setCell ⟨g, r * 12 + 3, none⟩ (.int .i64 (Z 3))).setCell ⟨g, r * 12 + 4, none⟩ (.int .i64 (Z 4))).setCell ⟨g, r * 12 + 5, none⟩ (.int .i64 (Z 5))).setCell ⟨g, r * 12 + 6, none⟩ (.int .i64 (Z 6))).setCell ⟨g, r * 12 + 7, none⟩ (.int .i64 (Z 7))).setCell ⟨g, r * 12 + 8, none⟩ (.int .i64 (Z 8))).setCell ⟨g, r * 12 + 9, none⟩ (.int .i64 (Z 9))).setCell ⟨g, r * 12 + 10, none⟩ (.int .i64 (Z 10))).setCell ⟨g, r * 12 + 11, none⟩ (.int .i64 (Z 11))) = w7 at *
                  go_wp2
                  go_roundw
                  case rel => exact ⟨r + 1, by omega, by go_num, E7.out, B7.out⟩
                  case measure => simp [intOf]; omega
                · go_simp
                  refine hK.out _ _ (KEEP.out _ HE.out.drew) (fun hHeld => ?_)
                  clear hK K
                  try simp only [List.getElem_toArray, List.getElem_cons_succ, List.getElem_cons_zero, Act.put, List.setIfInBounds_toArray, List.set_cons_zero, List.set_cons_succ]
                  refine wpAnyH_ready (rs := [5, 17]) (by kernel_rfl) (by simp) ?_
                  refine AllReadyH.cons rfl (fun K hK => ?_) (AllReadyH.cons rfl (fun K hK => ?_) AllReadyH.nil)
                  · go_simp
                    refine hK.out _ _ (KEEP.out _ HE.out.drew) (fun hHeld => ?_)
                    clear hK K
                    try simp only [List.getElem_toArray, List.getElem_cons_succ, List.getElem_cons_zero, Act.put, List.setIfInBounds_toArray, List.set_cons_zero, List.set_cons_succ]
                    refine wpAnyH_ready (rs := [17]) (by kernel_rfl) (by simp) ?_
                    refine AllReadyH.cons rfl (fun K hK => ?_) AllReadyH.nil
                    go_simp
                    go_at_call 62
                    refine (CT2.out _).mono ?_
                    rintro e w5 ⟨rfl, hb⟩
                    have E5 : Hid (EqB w5 g n (prtF c N r)) := (HE.out.drew).later hb
                    have B5 : Hid (Below g w w5) := (HB2.out.drew).trans (hb.mono (Nat.le_of_lt HE.out.lt))
                    clear hb
                    have q0 : w5.cell? ⟨g, r * 12, none⟩ = some (.int .i64 (N r 0)) := HRC.out _ E5.out 0 (by omega)
                    have q1 : w5.cell? ⟨g, r * 12 + 1, none⟩ = some (.int .i64 (N r 1)) := HRC.out _ E5.out 1 (by omega)
                    have q2 : w5.cell? ⟨g, r * 12 + 2, none⟩ = some (.int .i64 (N r 2)) := HRC.out _ E5.out 2 (by omega)
                    have q3 : w5.cell? ⟨g, r * 12 + 3, none⟩ = some (.int .i64 (N r 3)) := HRC.out _ E5.out 3 (by omega)
                    have q4 : w5.cell? ⟨g, r * 12 + 4, none⟩ = some (.int .i64 (N r 4)) := HRC.out _ E5.out 4 (by omega)
                    have q5 : w5.cell? ⟨g, r * 12 + 5, none⟩ = some (.int .i64 (N r 5)) := HRC.out _ E5.out 5 (by omega)
                    have q6 : w5.cell? ⟨g, r * 12 + 6, none⟩ = some (.int .i64 (N r 6)) := HRC.out _ E5.out 6 (by omega)
                    have q7 : w5.cell? ⟨g, r * 12 + 7, none⟩ = some (.int .i64 (N r 7)) := HRC.out _ E5.out 7 (by omega)
                    have q8 : w5.cell? ⟨g, r * 12 + 8, none⟩ = some (.int .i64 (N r 8)) := HRC.out _ E5.out 8 (by omega)
                    have q9 : w5.cell? ⟨g, r * 12 + 9, none⟩ = some (.int .i64 (N r 9)) := HRC.out _ E5.out 9 (by omega)
                    have q10 : w5.cell? ⟨g, r * 12 + 10, none⟩ = some (.int .i64 (N r 10)) := HRC.out _ E5.out 10 (by omega)
                    have q11 : w5.cell? ⟨g, r * 12 + 11, none⟩ = some (.int .i64 (N r 11)) := HRC.out _ E5.out 11 (by omega)
                    go_wp2_with fail
                    refine hK.out _ _ (KEEP.out _ E5.out) (fun hHeld => ?_)
                    clear hK K
                    try simp only [List.getElem_toArray, List.getElem_cons_succ, List.getElem_cons_zero, Act.put, List.setIfInBounds_toArray, List.set_cons_zero, List.set_cons_succ]
                    refine wpAnyH_ready (rs := [18]) (by kernel_rfl) (by simp) ?_
                    refine AllReadyH.cons rfl (fun K hK => ?_) AllReadyH.nil
                    go_simp
                    go_at_call 63
                    refine (CM.out _).mono ?_
                    rintro e w6 ⟨rfl, hb⟩
                    have E6 : Hid (EqB w6 g n (prtF c N r)) := E5.out.later hb
                    have B6 : Hid (Below g w w6) := B5.out.trans (hb.mono (Nat.le_of_lt E5.out.lt))
                    clear hb
                    clear q0 q1 q2 q3 q4 q5 q6 q7 q8 q9 q10 q11 x0 x1 x2 x3 x4 x5 x6 x7 x8 x9 x10 x11
                    have q0 : w6.cell? ⟨g, r * 12, none⟩ = some (.int .i64 (N r 0)) := HRC.out _ E6.out 0 (by omega)
                    have q1 : w6.cell? ⟨g, r * 12 + 1, none⟩ = some (.int .i64 (N r 1)) := HRC.out _ E6.out 1 (by omega)
                    have q2 : w6.cell? ⟨g, r * 12 + 2, none⟩ = some (.int .i64 (N r 2)) := HRC.out _ E6.out 2 (by omega)
                    have q3 : w6.cell? ⟨g, r * 12 + 3, none⟩ = some (.int .i64 (N r 3)) := HRC.out _ E6.out 3 (by omega)
                    have q4 : w6.cell? ⟨g, r * 12 + 4, none⟩ = some (.int .i64 (N r 4)) := HRC.out _ E6.out 4 (by omega)
                    have q5 : w6.cell? ⟨g, r * 12 + 5, none⟩ = some (.int .i64 (N r 5)) := HRC.out _ E6.out 5 (by omega)
                    have q6 : w6.cell? ⟨g, r * 12 + 6, none⟩ = some (.int .i64 (N r 6)) := HRC.out _ E6.out 6 (by omega)
                    have q7 : w6.cell? ⟨g, r * 12 + 7, none⟩ = some (.int .i64 (N r 7)) := HRC.out _ E6.out 7 (by omega)
                    have q8 : w6.cell? ⟨g, r * 12 + 8, none⟩ = some (.int .i64 (N r 8)) := HRC.out _ E6.out 8 (by omega)
                    have q9 : w6.cell? ⟨g, r * 12 + 9, none⟩ = some (.int .i64 (N r 9)) := HRC.out _ E6.out 9 (by omega)
                    have q10 : w6.cell? ⟨g, r * 12 + 10, none⟩ = some (.int .i64 (N r 10)) := HRC.out _ E6.out 10 (by omega)
                    have q11 : w6.cell? ⟨g, r * 12 + 11, none⟩ = some (.int .i64 (N r 11)) := HRC.out _ E6.out 11 (by omega)
                    have f0 : w6.frozen? ⟨g, r * 12, none⟩ = false := E6.out.frozen (r * 12)
                    have f1 : w6.frozen? ⟨g, r * 12 + 1, none⟩ = false := E6.out.frozen (r * 12 + 1)
                    have f2 : w6.frozen? ⟨g, r * 12 + 2, none⟩ = false := E6.out.frozen (r * 12 + 2)
                    have f3 : w6.frozen? ⟨g, r * 12 + 3, none⟩ = false := E6.out.frozen (r * 12 + 3)
                    have f4 : w6.frozen? ⟨g, r * 12 + 4, none⟩ = false := E6.out.frozen (r * 12 + 4)
                    have f5 : w6.frozen? ⟨g, r * 12 + 5, none⟩ = false := E6.out.frozen (r * 12 + 5)
                    have f6 : w6.frozen? ⟨g, r * 12 + 6, none⟩ = false := E6.out.frozen (r * 12 + 6)
                    have f7 : w6.frozen? ⟨g, r * 12 + 7, none⟩ = false := E6.out.frozen (r * 12 + 7)
                    have f8 : w6.frozen? ⟨g, r * 12 + 8, none⟩ = false := E6.out.frozen (r * 12 + 8)
                    have f9 : w6.frozen? ⟨g, r * 12 + 9, none⟩ = false := E6.out.frozen (r * 12 + 9)
                    have f10 : w6.frozen? ⟨g, r * 12 + 10, none⟩ = false := E6.out.frozen (r * 12 + 10)
                    have f11 : w6.frozen? ⟨g, r * 12 + 11, none⟩ = false := E6.out.frozen (r * 12 + 11)
                    go_wp2_with fail
                    refine hK.out _ _ (KEEP.out _ E6.out) (fun hHeld => ?_)
                    clear hK K
                    try simp only [List.getElem_toArray, List.getElem_cons_succ, List.getElem_cons_zero, Act.put, List.setIfInBounds_toArray, List.set_cons_zero, List.set_cons_succ]
                    refine wpAnyH_take (i := 19) (v := ?_) rfl (by kernel_rfl) (by kernel_rfl) (by kernel_rfl) (fun _ _ _ h => h) (Or.inl ⟨by rfl, ?_⟩) (by assumption) ?_
                    rotate_left
                    · intro w hSw; (try dsimp only at hSw); go_simp; (try (with_reducible rfl))
                    try simp only [List.getElem_toArray, List.getElem_cons_succ, List.getElem_cons_zero, Act.put, List.setIfInBounds_toArray, List.set_cons_zero, List.set_cons_succ]
                    refine wpAnyH_ready (rs := [20]) (by kernel_rfl) (by simp) ?_
                    refine AllReadyH.cons rfl (fun K hK => ?_) AllReadyH.nil
                    go_simp
                    have E7 : Hid (EqB ((((((((((((w6.setCell ⟨g, r * 12, none⟩ (.int .i64 (Z 0))).setCell ⟨g, r * 12 + 1, none⟩ (.int .i64 (Z 1))).setCell ⟨g, r * 12 + 2, none⟩ (.int .i64 (Z 2))).setCell ⟨g, r * 12 + 3, none⟩ (.int .i64 (Z 3))).setCell ⟨g, r * 12 + 4, none⟩ (.int .i64 (Z 4))).setCell ⟨g, r * 12 + 5, none⟩ (.int .i64 (Z 5))).setCell ⟨g, r * 12 + 6, none⟩ (.int .i64 (Z 6))).setCell ⟨g, r * 12 + 7, none⟩ (.int .i64 (Z 7))).setCell ⟨g, r * 12 + 8, none⟩ (.int .i64 (Z 8))).setCell ⟨g, r * 12 + 9, none⟩ (.int .i64 (Z 9))).setCell ⟨g, r * 12 + 10, none⟩ (.int .i64 (Z 10))).setCell ⟨g, r * 12 + 11, none⟩ (.int .i64 (Z 11))) g n (prtF c N (r + 1))) := (E6.out.row hr Z).congr (fun r' k _ _ => by
                      unfold prtF
                      by_cases e : r' = r
                      · subst e; rw [if_pos rfl, if_neg hrc, if_pos (by omega), HZ.out]
                      · rw [if_neg e]
                        by_cases e2 : r' = c
                        · rw [if_pos e2, if_pos e2]
                        · rw [if_neg e2, if_neg e2]
                          by_cases e3 : r' < r
                          · rw [if_pos e3, if_pos (by omega)]
                          · rw [if_neg e3, if_neg (by omega)])
                    have B7 : Hid (Below g w ((((((((((((w6.setCell ⟨g, r * 12, none⟩ (.int .i64 (Z 0))).setCell ⟨g, r * 12 + 1, none⟩ (.int .i64 (Z 1))).setCell ⟨g, r * 12 + 2, none⟩ (.int .i64 (Z 2))).setCell ⟨g, r * 12 + 3, none⟩ (.int .i64 (Z 3))).setCell ⟨g, r * 12 + 4, none⟩ (.int .i64 (Z 4))).setCell ⟨g, r * 12 + 5, none⟩ (.int .i64 (Z 5))).setCell ⟨g, r * 12 + 6, none⟩ (.int .i64 (Z 6))).setCell ⟨g, r * 12 + 7, none⟩ (.int .i64 (Z 7))).setCell ⟨g, r * 12 + 8, none⟩ (.int .i64 (Z 8))).setCell ⟨g, r * 12 + 9, none⟩ (.int .i64 (Z 9))).setCell ⟨g, r * 12 + 10, none⟩ (.int .i64 (Z 10))).setCell ⟨g, r * 12 + 11, none⟩ (.int .i64 (Z 11)))) := row_below B6.out r Z
                    refine hK.out _ _ (KEEP.out _ E7.out) (fun hHeld => ?_)
                    clear hK K
                    try simp only [List.getElem_toArray, List.getElem_cons_succ, List.getElem_cons_zero, Act.put, List.setIfInBounds_toArray, List.set_cons_zero, List.set_cons_succ]
                    refine wpAnyH_done (by kernel_rfl) ?_ _
                    clear E6 B6 E5 B5
                    clear q0 q1 q2 q3 q4 q5 q6 q7 q8 q9 q10 q11 f0 f1 f2 f3 f4 f5 f6 f7 f8 f9 f10 f11 hHeld
                    generalize ((((((((((((w6.setCell ⟨g, r * 12, none⟩ (.int .i64 (Z 0))).setCell ⟨g, r * 12 + 1, none⟩ (.int .i64 (Z 1))).setCell ⟨g, r * 12 + 2, none⟩ (.int .i64 (Z 2))).setCell ⟨g, r * 12 + 3, none⟩ (.int .i64 (Z 3))).setCell ⟨g, r * 12 + 4, none⟩ (.int .i64 (Z 4))).setCell ⟨g, r * 12 + 5, none⟩ (.int .i64 (Z 5))).setCell ⟨g, r * 12 + 6, none⟩ (.int .i64 (Z 6))).setCell ⟨g, r * 12 + 7, none⟩ (.int .i64 (Z 7))).setCell ⟨g, r * 12 + 8, none⟩ (.int .i64 (Z 8))).setCell ⟨g, r * 12 + 9, none⟩ (.int .i64 (Z 9))).setCell ⟨g, r * 12 + 10, none⟩ (.int .i64 (Z 10))).setCell ⟨g, r * 12 + 11, none⟩ (.int .i64 (Z 11))) = w7 at *
                    go_wp2
                    go_roundw
                    case rel => exact ⟨r + 1, by omega, by go_num, E7.out, B7.out⟩
                    case measure => simp [intOf]; omega
                  · go_simp
                    go_at_call 62
                    refine (CT2.out _).mono ?_
                    rintro e w5 ⟨rfl, hb⟩
                    have E5 : Hid (EqB w5 g n (prtF c N r)) := (HE.out.drew).later hb
                    have B5 : Hid (Below g w w5) := (HB2.out.drew).trans (hb.mono (Nat.le_of_lt HE.out.lt))
                    clear hb
                    have q0 : w5.cell? ⟨g, r * 12, none⟩ = some (.int .i64 (N r 0)) := HRC.out _ E5.out 0 (by omega)
                    have q1 : w5.cell? ⟨g, r * 12 + 1, none⟩ = some (.int .i64 (N r 1)) := HRC.out _ E5.out 1 (by omega)
                    have q2 : w5.cell? ⟨g, r * 12 + 2, none⟩ = some (.int .i64 (N r 2)) := HRC.out _ E5.out 2 (by omega)
                    have q3 : w5.cell? ⟨g, r * 12 + 3, none⟩ = some (.int .i64 (N r 3)) := HRC.out _ E5.out 3 (by omega)
                    have q4 : w5.cell? ⟨g, r * 12 + 4, none⟩ = some (.int .i64 (N r 4)) := HRC.out _ E5.out 4 (by omega)
                    have q5 : w5.cell? ⟨g, r * 12 + 5, none⟩ = some (.int .i64 (N r 5)) := HRC.out _ E5.out 5 (by omega)
                    have q6 : w5.cell? ⟨g, r * 12 + 6, none⟩ = some (.int .i64 (N r 6)) := HRC.out _ E5.out 6 (by omega)
                    have q7 : w5.cell? ⟨g, r * 12 + 7, none⟩ = some (.int .i64 (N r 7)) := HRC.out _ E5.out 7 (by omega)
                    have q8 : w5.cell? ⟨g, r * 12 + 8, none⟩ = some (.int .i64 (N r 8)) := HRC.out _ E5.out 8 (by omega)
                    have q9 : w5.cell? ⟨g, r * 12 + 9, none⟩ = some (.int .i64 (N r 9)) := HRC.out _ E5.out 9 (by omega)
                    have q10 : w5.cell? ⟨g, r * 12 + 10, none⟩ = some (.int .i64 (N r 10)) := HRC.out _ E5.out 10 (by omega)
                    have q11 : w5.cell? ⟨g, r * 12 + 11, none⟩ = some (.int .i64 (N r 11)) := HRC.out _ E5.out 11 (by omega)
                    go_wp2_with fail
                    refine hK.out _ _ (KEEP.out _ E5.out) (fun hHeld => ?_)
                    clear hK K
                    try simp only [List.getElem_toArray, List.getElem_cons_succ, List.getElem_cons_zero, Act.put, List.setIfInBounds_toArray, List.set_cons_zero, List.set_cons_succ]
                    refine wpAnyH_ready (rs := [5]) (by kernel_rfl) (by simp) ?_
                    refine AllReadyH.cons rfl (fun K hK => ?_) AllReadyH.nil
                    go_simp
                    refine hK.out _ _ (KEEP.out _ E5.out) (fun hHeld => ?_)
                    clear hK K
                    try simp only [List.getElem_toArray, List.getElem_cons_succ, List.getElem_cons_zero, Act.put, List.setIfInBounds_toArray, List.set_cons_zero, List.set_cons_succ]
                    refine wpAnyH_ready (rs := [18]) (by kernel_rfl) (by simp) ?_
                    refine AllReadyH.cons rfl (fun K hK => ?_) AllReadyH.nil
                    go_simp
                    go_at_call 63
                    refine (CM.out _).mono ?_
                    rintro e w6 ⟨rfl, hb⟩
                    have E6 : Hid (EqB w6 g n (prtF c N r)) := E5.out.later hb
                    have B6 : Hid (Below g w w6) := B5.out.trans (hb.mono (Nat.le_of_lt E5.out.lt))
                    clear hb
                    clear q0 q1 q2 q3 q4 q5 q6 q7 q8 q9 q10 q11 x0 x1 x2 x3 x4 x5 x6 x7 x8 x9 x10 x11
                    have q0 : w6.cell? ⟨g, r * 12, none⟩ = some (.int .i64 (N r 0)) := HRC.out _ E6.out 0 (by omega)
                    have q1 : w6.cell? ⟨g, r * 12 + 1, none⟩ = some (.int .i64 (N r 1)) := HRC.out _ E6.out 1 (by omega)
                    have q2 : w6.cell? ⟨g, r * 12 + 2, none⟩ = some (.int .i64 (N r 2)) := HRC.out _ E6.out 2 (by omega)
                    have q3 : w6.cell? ⟨g, r * 12 + 3, none⟩ = some (.int .i64 (N r 3)) := HRC.out _ E6.out 3 (by omega)
                    have q4 : w6.cell? ⟨g, r * 12 + 4, none⟩ = some (.int .i64 (N r 4)) := HRC.out _ E6.out 4 (by omega)
                    have q5 : w6.cell? ⟨g, r * 12 + 5, none⟩ = some (.int .i64 (N r 5)) := HRC.out _ E6.out 5 (by omega)
                    have q6 : w6.cell? ⟨g, r * 12 + 6, none⟩ = some (.int .i64 (N r 6)) := HRC.out _ E6.out 6 (by omega)
                    have q7 : w6.cell? ⟨g, r * 12 + 7, none⟩ = some (.int .i64 (N r 7)) := HRC.out _ E6.out 7 (by omega)
                    have q8 : w6.cell? ⟨g, r * 12 + 8, none⟩ = some (.int .i64 (N r 8)) := HRC.out _ E6.out 8 (by omega)
                    have q9 : w6.cell? ⟨g, r * 12 + 9, none⟩ = some (.int .i64 (N r 9)) := HRC.out _ E6.out 9 (by omega)
                    have q10 : w6.cell? ⟨g, r * 12 + 10, none⟩ = some (.int .i64 (N r 10)) := HRC.out _ E6.out 10 (by omega)
                    have q11 : w6.cell? ⟨g, r * 12 + 11, none⟩ = some (.int .i64 (N r 11)) := HRC.out _ E6.out 11 (by omega)
                    have f0 : w6.frozen? ⟨g, r * 12, none⟩ = false := E6.out.frozen (r * 12)
                    have f1 : w6.frozen? ⟨g, r * 12 + 1, none⟩ = false := E6.out.frozen (r * 12 + 1)
                    have f2 : w6.frozen? ⟨g, r * 12 + 2, none⟩ = false := E6.out.frozen (r * 12 + 2)
                    have f3 : w6.frozen? ⟨g, r * 12 + 3, none⟩ = false := E6.out.frozen (r * 12 + 3)
                    have f4 : w6.frozen? ⟨g, r * 12 + 4, none⟩ = false := E6.out.frozen (r * 12 + 4)
                    have f5 : w6.frozen? ⟨g, r * 12 + 5, none⟩ = false := E6.out.frozen (r * 12 + 5)
                    have f6 : w6.frozen? ⟨g, r * 12 + 6, none⟩ = false := E6.out.frozen (r * 12 + 6)
                    have f7 : w6.frozen? ⟨g, r * 12 + 7, none⟩ = false := E6.out.frozen (r * 12 + 7)
                    have f8 : w6.frozen? ⟨g, r * 12 + 8, none⟩ = false := E6.out.frozen (r * 12 + 8)
                    have f9 : w6.frozen? ⟨g, r * 12 + 9, none⟩ = false := E6.out.frozen (r * 12 + 9)
                    have f10 : w6.frozen? ⟨g, r * 12 + 10, none⟩ = false := E6.out.frozen (r * 12 + 10)
                    have f11 : w6.frozen? ⟨g, r * 12 + 11, none⟩ = false := E6.out.frozen (r * 12 + 11)
                    go_wp2_with fail
                    refine hK.out _ _ (KEEP.out _ E6.out) (fun hHeld => ?_)
                    clear hK K
                    try simp only [List.getElem_toArray, List.getElem_cons_succ, List.getElem_cons_zero, Act.put, List.setIfInBounds_toArray, List.set_cons_zero, List.set_cons_succ]
                    refine wpAnyH_take (i := 19) (v := ?_) rfl (by kernel_rfl) (by kernel_rfl) (by kernel_rfl) (fun _ _ _ h => h) (Or.inl ⟨by rfl, ?_⟩) (by assumption) ?_
                    rotate_left
                    · intro w hSw; (try dsimp only at hSw); go_simp; (try (with_reducible rfl))
                    try simp only [List.getElem_toArray, List.getElem_cons_succ, List.getElem_cons_zero, Act.put, List.setIfInBounds_toArray, List.set_cons_zero, List.set_cons_succ]
                    refine wpAnyH_ready (rs := [20]) (by kernel_rfl) (by simp) ?_
                    refine AllReadyH.cons rfl (fun K hK => ?_) AllReadyH.nil
                    go_simp
                    have E7 : Hid (EqB ((((((((((((w6.setCell ⟨g, r * 12, none⟩ (.int .i64 (Z 0))).setCell ⟨g, r * 12 + 1, none⟩ (.int .i64 (Z 1))).setCell ⟨g, r * 12 + 2, none⟩ (.int .i64 (Z 2))).setCell ⟨g, r * 12 + 3, none⟩ (.int .i64 (Z 3))).setCell ⟨g, r * 12 + 4, none⟩ (.int .i64 (Z 4))).setCell ⟨g, r * 12 + 5, none⟩ (.int .i64 (Z 5))).setCell ⟨g, r * 12 + 6, none⟩ (.int .i64 (Z 6))).setCell ⟨g, r * 12 + 7, none⟩ (.int .i64 (Z 7))).setCell ⟨g, r * 12 + 8, none⟩ (.int .i64 (Z 8))).setCell ⟨g, r * 12 + 9, none⟩ (.int .i64 (Z 9))).setCell ⟨g, r * 12 + 10, none⟩ (.int .i64 (Z 10))).setCell ⟨g, r * 12 + 11, none⟩ (.int .i64 (Z 11))) g n (prtF c N (r + 1))) := (E6.out.row hr Z).congr (fun r' k _ _ => by
                      unfold prtF
                      by_cases e : r' = r
                      · subst e; rw [if_pos rfl, if_neg hrc, if_pos (by omega), HZ.out]
                      · rw [if_neg e]
                        by_cases e2 : r' = c
                        · rw [if_pos e2, if_pos e2]
                        · rw [if_neg e2, if_neg e2]
                          by_cases e3 : r' < r
                          · rw [if_pos e3, if_pos (by omega)]
                          · rw [if_neg e3, if_neg (by omega)])
                    have B7 : Hid (Below g w ((((((((((((w6.setCell ⟨g, r * 12, none⟩ (.int .i64 (Z 0))).setCell ⟨g, r * 12 + 1, none⟩ (.int .i64 (Z 1))).setCell ⟨g, r * 12 + 2, none⟩ (.int .i64 (Z 2))).setCell ⟨g, r * 12 + 3, none⟩ (.int .i64 (Z 3))).setCell ⟨g, r * 12 + 4, none⟩ (.int .i64 (Z 4))).setCell ⟨g, r * 12 + 5, none⟩ (.int .i64 (Z 5))).setCell ⟨g, r * 12 + 6, none⟩ (.int .i64 (Z 6))).setCell ⟨g, r * 12 + 7, none⟩ (.int .i64 (Z 7))).setCell ⟨g, r * 12 + 8, none⟩ (.int .i64 (Z 8))).setCell ⟨g, r * 12 + 9, none⟩ (.int .i64 (Z 9))).setCell ⟨g, r * 12 + 10, none⟩ (.int .i64 (Z 10))).setCell ⟨g, r * 12 + 11, none⟩ (.int .i64 (Z 11)))) := row_below B6.out r Z
                    refine hK.out _ _ (KEEP.out _ E7.out) (fun hHeld => ?_)
                    clear hK K
                    try simp only [List.getElem_toArray, List.getElem_cons_succ, List.getElem_cons_zero, Act.put, List.setIfInBounds_toArray, List.set_cons_zero, List.set_cons_succ]
                    refine wpAnyH_done (by kernel_rfl) ?_ _
                    clear E6 B6 E5 B5
                    clear q0 q1 q2 q3 q4 q5 q6 q7 q8 q9 q10 q11 f0 f1 f2 f3 f4 f5 f6 f7 f8 f9 f10 f11 hHeld
                    generalize ((((((((((((w6.setCell ⟨g, r * 12, none⟩ (.int .i64 (Z 0))).setCell ⟨g, r * 12 + 1, none⟩ (.int .i64 (Z 1))).setCell ⟨g, r * 12 + 2, none⟩ (.int .i64 (Z 2))).setCell ⟨g, r * 12 + 3, none⟩ (.int .i64 (Z 3))).setCell ⟨g, r * 12 + 4, none⟩ (.int .i64 (Z 4))).setCell ⟨g, r * 12 + 5, none⟩ (.int .i64 (Z 5))).setCell ⟨g, r * 12 + 6, none⟩ (.int .i64 (Z 6))).setCell ⟨g, r * 12 + 7, none⟩ (.int .i64 (Z 7))).setCell ⟨g, r * 12 + 8, none⟩ (.int .i64 (Z 8))).setCell ⟨g, r * 12 + 9, none⟩ (.int .i64 (Z 9))).setCell ⟨g, r * 12 + 10, none⟩ (.int .i64 (Z 10))).setCell ⟨g, r * 12 + 11, none⟩ (.int .i64 (Z 11))) = w7 at *
                    go_wp2
                    go_roundw
                    case rel => exact ⟨r + 1, by omega, by go_num, E7.out, B7.out⟩
                    case measure => simp [intOf]; omega
            · obtain rfl : n = r := by omega
              have E8 : Hid (EqB wr g n (slvF M (c + 1))) := HE.out.congr (fun r' k hr' _ => by rw [prtF_end r' k hr', ← HNN.out]; rfl)
              go_wp2
              go_roundw
              case rel => exact ⟨c + 1, by omega, by go_num, E8.out, HB2.out⟩
              case measure => simp [intOf]; omega
    · obtain rfl : n = c := by omega
      go_wp2
      refine bodyPost_end (v := .tuple #[]) ?_ rfl ⟨⟨_, rfl⟩, HN0.out, HB.out⟩
      simp [results, Tryd.results33, go_sem]
end Go.Proofs.YtjjflbnopphciabDoor
