import Derived.Test.YtghpofhpkbgckaaE54

namespace Go.Proofs.Ytghpofhpkbgckaa
open Go.RowKit

def steps (xs : List Int) : List Int := (List.range (xs.length - 1)).map fun k => xs.getD (k + 1) 0 - xs.getD k 0
theorem steps_len (xs : List Int) : (steps xs).length = xs.length - 1 := by simp [steps]
theorem steps_take (xs : List Int) (k : Nat) (hk : k < xs.length - 1) : (steps xs).take (k + 1) = (steps xs).take k ++ [xs.getD (k + 1) 0 - xs.getD k 0] := by
  have hl : k < (steps xs).length := by rw [steps_len]; exact hk
  rw [List.take_succ_eq_append_getElem hl]
  simp [steps]
set_option maxRecDepth 100000 in
set_option maxHeartbeats 2000000 in
theorem stepsOf_any (A : Option Addr) (n c : Nat) (xs : List Int) (w : World) (hr : RdI w A n xs) (hn : n ≤ 1000000) (hx : ∀ x ∈ xs, -1000000000000 ≤ x ∧ x ≤ 1000000000000) :
    Calls Try.prog 69 #[.slice A n c] w (OwnS w (steps xs)) := by
  have HR := Lib.hid hr
  have HX : Hid (∀ k, -1000000000000 ≤ xs.getD k 0 ∧ xs.getD k 0 ≤ 1000000000000) := fun k => getD_bd (by omega) hx k
  have hxl := hr.1
  have HST : Hid (∀ k, k + 1 < n → (steps xs).take (k + 1) = (steps xs).take k ++ [xs.getD (k + 1) 0 - xs.getD k 0]) := fun k hk => steps_take xs k (by omega)
  have HSL : Hid ((steps xs).length = n - 1) := by show _ = _; rw [steps_len, hxl]
  obtain ⟨st, hst⟩ : ∃ st, steps xs = st := ⟨_, rfl⟩
  rw [hst] at HST HSL ⊢
  clear hst hr hx hxl
  obtain ⟨i0, hi0, hza, hzb, hzc⟩ := info_parts intInfo'
  go_enter Try.func69, Try.ntmps69
  go_wp2
  go_loopw [3, 4] (fun p i wr => ∃ k : Nat, k ≤ n - 1 ∧ i = .int .i64 ((k : Int) + 1) ∧ Hid (wr.ownsRow w.heap.size 3 1 p k ((st.take k).map (Value.int .i64))) ∧ Hid (Below w.heap.size w wr)) (fun _ i _ => n - (intOf i).toNat)
  case atStart => exact ⟨0, Nat.zero_le _, rfl, Lib.hid (World.ownsRow_nil _ _ _ _), Lib.hid (Below.refl _ _)⟩
  case round =>
    obtain ⟨k, hk, rfl, HI, HB⟩ := hrel
    obtain ⟨A2, cap2, hp, _, _⟩ := rd_of_own HI.out
    subst hp
    by_cases hlt : k + 1 < n
    · have hkI : (k : Int) + 1 < (n : Int) := by omega
      obtain ⟨ad, rfl, hadb, hca⟩ := HR.out.2 (by omega)
      have hc1 : wr.cell? (ad.add (k + 1)) = some (.int .i64 (xs.getD (k + 1) 0)) := (HB.out.cell (by rw [addBlock]; exact hadb)).trans (hca (k + 1) hlt)
      have hc0 : wr.cell? (ad.add k) = some (.int .i64 (xs.getD k 0)) := (HB.out.cell (by rw [addBlock]; exact hadb)).trans (hca k (by omega))
      have hc1w : w.cell? (ad.add (k + 1)) = some (.int .i64 (xs.getD (k + 1) 0)) := hca (k + 1) hlt
      have hc0w : w.cell? (ad.add k) = some (.int .i64 (xs.getD k 0)) := hca k (by omega)
      clear hca
      have HSN := Lib.hid (HST.out k hlt)
      have b1 := HX.out (k + 1)
      have b0 := HX.out k
      obtain ⟨x, hx⟩ : ∃ x, xs.getD (k + 1) 0 = x := ⟨_, rfl⟩
      obtain ⟨y, hy⟩ : ∃ y, xs.getD k 0 = y := ⟨_, rfl⟩
      rw [hx] at hc1 hc1w HSN b1
      rw [hy] at hc0 hc0w HSN b0
      clear hx hy
      have w1 : IntKind.i64.wrap (x - y) = x - y := IntWalk.i64_in _ (by omega)
      obtain ⟨k1, hk1⟩ : ∃ k1, k + 1 = k1 := ⟨_, rfl⟩
      have hk1I : (k : Int) + 1 = (k1 : Int) := by omega
      rw [hk1] at hc1 hc1w
      rw [hk1I]
      have w2 : IntKind.i64.wrap ((k1 : Int) - 1) = (k : Int) := by rw [← hk1I, show (k : Int) + 1 - 1 = (k : Int) by omega]; exact IntWalk.i64_in _ (by omega)
      have w3 : IntKind.i64.wrap ((k1 : Int) + 1) = (k1 : Int) + 1 := IntWalk.i64_in _ (by omega)
      have hk1n : (k1 : Int) < (n : Int) := by omega
      have hkn : (k : Int) < (n : Int) := by omega
      have hk10 : (0 : Int) ≤ (k1 : Int) := by omega
      have hk00 : (0 : Int) ≤ (k : Int) := by omega
      have hlt1 : k1 < n := by omega
      have hlt0 : k < n := by omega
      have hkk : k < n - 1 := by omega
      have HK1J := Lib.hid hk1
      clear hk1I hkI hk1
      have HSK : Hid (∀ W, Below w.heap.size w W → (fun w' : World => w'.cell? (ad.add k1) = some (.int .i64 x) ∧ w'.cell? (ad.add k) = some (.int .i64 y)) W) := fun W hb => ⟨(hb.cell (by rw [addBlock]; exact hadb)).trans hc1w, (hb.cell (by rw [addBlock]; exact hadb)).trans hc0w⟩
      clear hc1 hc0 hc1w hc0w
      go_wp2
      refine wp_region_held_drew (S := (fun w' : World => w'.cell? (ad.add k1) = some (.int .i64 x) ∧ w'.cell? (ad.add k) = some (.int .i64 y))) (by kernel_rfl) ?_ ?_
      · exact HSK.out _ HB.out.drew
      intro hHeld
      refine wpAnyH_take (i := 0) (v := ?_) rfl (by kernel_rfl) (by kernel_rfl) (by kernel_rfl) (fun _ _ _ h => h) (Or.inl ⟨by rfl, ?_⟩) (by assumption) ?_
      rotate_left
      · intro w hSw; (try dsimp only at hSw); go_simp; (try (with_reducible rfl))
      try simp only [List.getElem_toArray, List.getElem_cons_succ, List.getElem_cons_zero, Act.put, List.setIfInBounds_toArray, List.set_cons_zero, List.set_cons_succ]
      refine wpAnyH_take (i := 1) (v := ?_) rfl (by kernel_rfl) (by kernel_rfl) (by kernel_rfl) (fun _ _ _ h => h) (Or.inl ⟨by rfl, ?_⟩) (by assumption) ?_
      rotate_left
      · intro w hSw; (try dsimp only at hSw); go_simp; (try (with_reducible rfl))
      try simp only [List.getElem_toArray, List.getElem_cons_succ, List.getElem_cons_zero, Act.put, List.setIfInBounds_toArray, List.set_cons_zero, List.set_cons_succ]
      refine wpAnyH_take (i := 2) (v := ?_) rfl (by kernel_rfl) (by kernel_rfl) (by kernel_rfl) (fun _ _ _ h => h) (Or.inl ⟨by rfl, ?_⟩) (by assumption) ?_
      rotate_left
      · intro w hSw; (try dsimp only at hSw); go_simp; (try (with_reducible rfl))
      try simp only [List.getElem_toArray, List.getElem_cons_succ, List.getElem_cons_zero, Act.put, List.setIfInBounds_toArray, List.set_cons_zero, List.set_cons_succ]
      refine wpAnyH_take (i := 3) (v := ?_) rfl (by kernel_rfl) (by kernel_rfl) (by kernel_rfl) (fun _ _ _ h => h) (Or.inl ⟨by rfl, ?_⟩) (by assumption) ?_
      rotate_left
      · intro w hSw; (try dsimp only at hSw); go_simp; (try (with_reducible rfl))
      try simp only [List.getElem_toArray, List.getElem_cons_succ, List.getElem_cons_zero, Act.put, List.setIfInBounds_toArray, List.set_cons_zero, List.set_cons_succ]
      refine wpAnyH_take (i := 4) (v := ?_) rfl (by kernel_rfl) (by kernel_rfl) (by kernel_rfl) (fun _ _ _ h => h) (Or.inl ⟨by rfl, ?_⟩) (by assumption) ?_
      rotate_left
      · intro w hSw; (try dsimp only at hSw); go_simp; (try (with_reducible rfl))
      try simp only [List.getElem_toArray, List.getElem_cons_succ, List.getElem_cons_zero, Act.put, List.setIfInBounds_toArray, List.set_cons_zero, List.set_cons_succ]
      refine wpAnyH_take (i := 5) (v := ?_) rfl (by kernel_rfl) (by kernel_rfl) (by kernel_rfl) (fun _ _ _ h => h) (Or.inl ⟨by rfl, ?_⟩) (by assumption) ?_
      rotate_left
      · intro w hSw; (try dsimp only at hSw); go_simp; (try (with_reducible rfl))
      try simp only [List.getElem_toArray, List.getElem_cons_succ, List.getElem_cons_zero, Act.put, List.setIfInBounds_toArray, List.set_cons_zero, List.set_cons_succ]
      refine wpAnyH_take (i := 6) (v := ?_) rfl (by kernel_rfl) (by kernel_rfl) (by kernel_rfl) (fun _ _ _ h => h) (Or.inl ⟨by rfl, ?_⟩) (by assumption) ?_
      rotate_left
      · intro w hSw; (try dsimp only at hSw); go_simp; (try (with_reducible rfl))
      try simp only [List.getElem_toArray, List.getElem_cons_succ, List.getElem_cons_zero, Act.put, List.setIfInBounds_toArray, List.set_cons_zero, List.set_cons_succ]
      refine wpAnyH_take (i := 7) (v := ?_) rfl (by kernel_rfl) (by kernel_rfl) (by kernel_rfl) (fun _ _ _ h => h) (Or.inl ⟨by rfl, ?_⟩) (by assumption) ?_
      rotate_left
      · intro w hSw; (try dsimp only at hSw); go_simp; (try (with_reducible rfl))
      try simp only [List.getElem_toArray, List.getElem_cons_succ, List.getElem_cons_zero, Act.put, List.setIfInBounds_toArray, List.set_cons_zero, List.set_cons_succ]
      refine wpAnyH_take (i := 8) (v := ?_) rfl (by kernel_rfl) (by kernel_rfl) (by kernel_rfl) (fun _ _ _ h => h) (Or.inl ⟨by rfl, ?_⟩) (by assumption) ?_
      rotate_left
      · intro w hSw; (try dsimp only at hSw); go_simp; (try (with_reducible rfl))
      try simp only [List.getElem_toArray, List.getElem_cons_succ, List.getElem_cons_zero, Act.put, List.setIfInBounds_toArray, List.set_cons_zero, List.set_cons_succ]
      refine wpAnyH_take (i := 9) (v := ?_) rfl (by kernel_rfl) (by kernel_rfl) (by kernel_rfl) (fun _ _ _ h => h) (Or.inl ⟨by rfl, ?_⟩) (by assumption) ?_
      rotate_left
      · intro w hSw; (try dsimp only at hSw); go_simp; (try (with_reducible rfl))
      try simp only [List.getElem_toArray, List.getElem_cons_succ, List.getElem_cons_zero, Act.put, List.setIfInBounds_toArray, List.set_cons_zero, List.set_cons_succ]
      refine wpAnyH_take (i := 10) (v := ?_) rfl (by kernel_rfl) (by kernel_rfl) (by kernel_rfl) (fun _ _ _ h => h) (Or.inl ⟨by rfl, ?_⟩) (by assumption) ?_
      rotate_left
      · intro w hSw; (try dsimp only at hSw); go_simp; (try (with_reducible rfl))
      try simp only [List.getElem_toArray, List.getElem_cons_succ, List.getElem_cons_zero, Act.put, List.setIfInBounds_toArray, List.set_cons_zero, List.set_cons_succ]
      refine wpAnyH_ready (rs := [11]) (by kernel_rfl) (by simp) ?_
      refine AllReadyH.cons rfl (fun K hK => ?_) AllReadyH.nil
      go_simp
      refine hK.out _ _ ?_ (fun hHeld => ?_)
      · clear hK K; exact HSK.out _ (HB.out.drew.alloc HB.out.drew.size _)
      clear hK K
      try simp only [List.getElem_toArray, List.getElem_cons_succ, List.getElem_cons_zero, Act.put, List.setIfInBounds_toArray, List.set_cons_zero, List.set_cons_succ]
      refine wpAnyH_ready (rs := [12]) (by kernel_rfl) (by simp) ?_
      refine AllReadyH.cons rfl (fun K hK => ?_) AllReadyH.nil
      refine step_append_at _ rfl (.tmp 11) (.tmp 22) 22 rfl w.heap.size 3 i0 _ 1 8 Try.underlying22 hi0 hza hzb hzc rfl (by decide) _ k _ rfl (HI.out.drew.alloc _) ⟨wr.heap.size, 0, none⟩ 1 1 [.int .i64 (x - y)] rfl rfl (cell_one_new _ _ _) (by simp [Value.oneCell']) (by simp only [maxLen]; omega) (by omega) (by have := HB.out.drew.size; simp at this ⊢; omega) ?_
      intro v' w4 hown' hgrow _ hat
      obtain ⟨g', cap', rfl⟩ := ownsRow_succ hown'
      have HB4 : Hid (Below w.heap.size w w4) := (HB.out.drew.alloc HB.out.drew.size _).grown hgrow (by have := HB.out.drew.size; simp at this ⊢; omega) (fun z e => (HI.out.lt z e).1)
      have HO4 : Hid (w4.ownsRow w.heap.size 3 1 (.slice (some ⟨g', 0, none⟩) (k + 1) cap') (k + 1) ((st.take (k + 1)).map (Value.int .i64))) := by
        refine Lib.hid ?_
        rw [HSN.out, List.map_append]
        exact hown'
      clear hown' hgrow hat
      refine hK.out _ _ ?_ (fun hHeld => ?_)
      · clear hK K; exact HSK.out _ HB4.out
      clear hK K
      try simp only [List.getElem_toArray, List.getElem_cons_succ, List.getElem_cons_zero, Act.put, List.setIfInBounds_toArray, List.set_cons_zero, List.set_cons_succ]
      refine wpAnyH_take (i := 13) (v := ?_) rfl (by kernel_rfl) (by kernel_rfl) (by kernel_rfl) (fun _ _ _ h => h) (Or.inl ⟨by rfl, ?_⟩) (by assumption) ?_
      rotate_left
      · intro w hSw; (try dsimp only at hSw); go_simp; (try (with_reducible rfl))
      try simp only [List.getElem_toArray, List.getElem_cons_succ, List.getElem_cons_zero, Act.put, List.setIfInBounds_toArray, List.set_cons_zero, List.set_cons_succ]
      refine wpAnyH_done (by kernel_rfl) ?_ _
      clear hHeld HSK
      go_wp2
      go_roundw
      case rel => exact ⟨k + 1, by omega, by rw [← HK1J.out], HO4, HB4⟩
      case measure => simp [intOf]; omega
    · obtain rfl : k = n - 1 := by omega
      have hz := HSL.out
      have h1 := HI.out
      rw [List.take_of_length_le (by omega)] at h1
      have hBB := HB.out
      go_wp2
      go_ret
      exact ⟨⟨_, rfl, by rw [hz]; exact h1⟩, hBB⟩

end Go.Proofs.Ytghpofhpkbgckaa
