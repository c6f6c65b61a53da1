import Derived.Test.YtghpofhpkbgckaaE45

namespace Go.Proofs.Ytghpofhpkbgckaa
open Go.RowKit

theorem backF_1 (ys : List Int) (k : Nat) : backF ys (k + 1) 1 = ys.getD k 0 := rfl
theorem backF_2 (ys : List Int) (k : Nat) : backF ys (k + 1) 2 = backF ys k 1 := by
  unfold backF
  by_cases h : 1 ≤ k
  · rw [if_pos h, if_pos (by omega), show k + 1 - 2 = k - 1 by omega]
  · rw [if_neg h, if_neg (by omega)]
theorem backF_s1 {ys : List Int} {k : Nat} (y : Int) (h : ys.length = k) : backF (ys ++ [y]) (k + 1) 1 = y := by
  rw [backF_1, List.getD_eq_getElem?_getD, ← h, List.getElem?_concat_length]; rfl
theorem backF_s2 {ys : List Int} {k : Nat} (y : Int) (h : ys.length = k) : backF (ys ++ [y]) (k + 1) 2 = backF ys k 1 := by
  rw [backF_2]
  unfold backF
  by_cases h1 : 1 ≤ k
  · rw [if_pos h1, if_pos h1, List.getD_eq_getElem?_getD, List.getD_eq_getElem?_getD, List.getElem?_append_left (by omega)]
  · rw [if_neg h1, if_neg h1]
theorem backF_0 (ys : List Int) : backF ys 0 1 = 0 ∧ backF ys 0 2 = 0 := ⟨rfl, rfl⟩

set_option maxRecDepth 100000 in
set_option maxHeartbeats 4000000 in
theorem refRestored_any (f s d : Int) (A : Option Addr) (n c : Nat) (xs : List Int) (w : World) (hok : EqOk f s d) (hr : RdI w A n xs) (hn : n ≤ 1000000) (hxs : ∀ x ∈ xs, -1000000000000000 ≤ x ∧ x ≤ 1000000000000000) :
    Calls Try.prog 51 #[.agg #[.int .i64 f, .int .i64 s, .int .i64 d], .slice A n c] w (OwnS w (rsR f s d 0 0 xs)) := by
  have HR := Lib.hid hr
  have HXL : Hid (xs.length = n) := hr.1
  have HEQ := Lib.hid hok
  have HXS := Lib.hid (fun k => getD_bd (xs := xs) (A := 1000000000000000) (by omega) hxs k)
  have HX0 := Lib.hid hxs
  clear hr hok hxs
  obtain ⟨i0, hi0, hza, hzb, hzc⟩ := info_parts intInfo'
  go_enter Try.func51, Try.ntmps51
  go_wp2
  obtain ⟨W1, hW1⟩ : ∃ W1, w.alloc (.cells #[.int .i64 f, .int .i64 s, .int .i64 d] 68) = W1 := ⟨_, rfl⟩
  have KW : Hid (Bk W1 w.heap.size 68 #[.int .i64 f, .int .i64 s, .int .i64 d]) := by show Bk _ _ _ _; rw [← hW1]; exact Bk.new _ _ _
  have BW : Hid (Below w.heap.size w W1) := by show Below _ _ _; rw [← hW1]; exact below1 _ _
  have hsz : w.heap.size < W1.heap.size := by rw [← hW1]; simp
  rw [hW1]
  clear hW1
  go_loopw [5, 6] (fun p i wr => ∃ (k : Nat) (ys : List Int), k ≤ n ∧ i = .int .i64 k ∧ Hid (rsR f s d 0 0 xs = ys ++ rsR f s d (backF xs k 1) (backF xs k 2) (xs.drop k)) ∧ Hid (ys.length = k) ∧ Hid (wr.ownsRow W1.heap.size 3 1 p k (ys.map (Value.int .i64))) ∧ Hid (Below W1.heap.size W1 wr)) (fun _ i _ => n - (intOf i).toNat)
  case atStart => exact ⟨0, [], Nat.zero_le _, rfl, by show _ = _; simp [backF_0], rfl, World.ownsRow_nil _ _ _ _, Below.refl _ _⟩
  case round =>
    obtain ⟨k, ys, hk, rfl, HI, HYL, HO, HB⟩ := hrel
    obtain ⟨A2, cap2, hp, hcap, hrow⟩ := rd_of_own HO.out
    subst hp
    have HRY := Lib.hid hrow
    clear hrow
    by_cases hlt : k < n
    · have hkI : (k : Int) < (n : Int) := by omega
      have hk0 : (0 : Int) ≤ (k : Int) := by omega
      obtain ⟨ad, rfl, hadb, hca⟩ := HR.out.2 (by omega)
      have hck0 : W1.cell? (ad.add k) = some (.int .i64 (xs.getD k 0)) := (BW.out.cell (by rw [addBlock]; exact hadb)).trans (hca k hlt)
      have hx := HXS.out k
      clear hca
      obtain ⟨x, hxe⟩ : ∃ x, xs.getD k 0 = x := ⟨_, rfl⟩
      rw [hxe] at hck0 hx
      have HXE := Lib.hid hxe
      clear hxe
      have HSK : Hid (∀ W, Below W1.heap.size W1 W → (fun w' : World => w'.cell? (ad.add k) = some (.int .i64 x) ∧ w'.cell? ⟨w.heap.size, 0, none⟩ = some (.int .i64 f) ∧ w'.cell? ⟨w.heap.size, 1, none⟩ = some (.int .i64 s) ∧ w'.cell? ⟨w.heap.size, 2, none⟩ = some (.int .i64 d)) W) := fun W hb => by
        obtain ⟨c0, c1, c2⟩ := bk3 (KW.out.later hb)
        exact ⟨(hb.cell (by rw [addBlock]; have := BW.out.size; omega)).trans hck0, c0, c1, c2⟩
      clear hck0
      have CA : Hid (∀ W, Below W1.heap.size W1 W → Calls Try.prog 85 #[.agg #[.int .i64 f, .int .i64 s, .int .i64 d], .slice (some ad) n c, .int .i64 (k : Int)] W fun e w' => e = .returned (.int .i64 (echoF f s d (backF xs k 1) (backF xs k 2))) ∧ Below W.heap.size W w') := fun W hb => added_any f s d (some ad) n c xs k W HEQ.out ((HR.out.below BW.out).below hb) hk hn HX0.out
      have he := echo_lim HEQ.out (backF_bd (by omega) HX0.out k 1) (backF_bd (by omega) HX0.out k 2)
      obtain ⟨ec, hec⟩ : ∃ ec, echoF f s d (backF xs k 1) (backF xs k 2) = ec := ⟨_, rfl⟩
      rw [hec] at CA he
      have wy : IntKind.i64.wrap (x - ec) = x - ec := IntWalk.i64_in _ (by omega)
      obtain ⟨y, hye⟩ : ∃ y, x - ec = y := ⟨_, rfl⟩
      have HYE := Lib.hid hye
      have HSTEP : Hid (rsR f s d 0 0 xs = ys ++ [y] ++ rsR f s d (backF xs (k + 1) 1) (backF xs (k + 1) 2) (xs.drop (k + 1))) := by
        show _ = _
        rw [backF_1, backF_2, HXE.out]
        exact rsR_step (by have := HXL.out; omega) HXE.out (by rw [hec]; exact hye) HI.out
      clear hye hec
      go_wp2
      refine wp_region_held_drew (S := (fun w' : World => w'.cell? (ad.add k) = some (.int .i64 x) ∧ w'.cell? ⟨w.heap.size, 0, none⟩ = some (.int .i64 f) ∧ w'.cell? ⟨w.heap.size, 1, none⟩ = some (.int .i64 s) ∧ w'.cell? ⟨w.heap.size, 2, none⟩ = some (.int .i64 d))) (by kernel_rfl) ?_ ?_
      · exact HSK.out _ HB.out.drew
      intro hHeld
      refine wpAnyH_take (i := 0) (v := ?_) rfl (by kernel_rfl) (by kernel_rfl) (by kernel_rfl) (fun _ _ _ h => h) (Or.inl ⟨by rfl, ?_⟩) (by assumption) ?_
      rotate_left
      · intro w hSw; (try dsimp only at hSw); go_simp; (try (with_reducible rfl))
      try simp only [List.getElem_toArray, List.getElem_cons_succ, List.getElem_cons_zero, Act.put, List.setIfInBounds_toArray, List.set_cons_zero, List.set_cons_succ]
      refine wpAnyH_take (i := 1) (v := ?_) rfl (by kernel_rfl) (by kernel_rfl) (by kernel_rfl) (fun _ _ _ h => h) (Or.inl ⟨by rfl, ?_⟩) (by assumption) ?_
      rotate_left
      · intro w hSw; (try dsimp only at hSw); go_simp; (try (with_reducible rfl))
      try simp only [List.getElem_toArray, List.getElem_cons_succ, List.getElem_cons_zero, Act.put, List.setIfInBounds_toArray, List.set_cons_zero, List.set_cons_succ]
      refine wpAnyH_take (i := 2) (v := ?_) rfl (by kernel_rfl) (by kernel_rfl) (by kernel_rfl) (fun _ _ _ h => h) (Or.inl ⟨by rfl, ?_⟩) (by assumption) ?_
      rotate_left
      · intro w hSw; (try dsimp only at hSw); go_simp; (try (with_reducible rfl))
      try simp only [List.getElem_toArray, List.getElem_cons_succ, List.getElem_cons_zero, Act.put, List.setIfInBounds_toArray, List.set_cons_zero, List.set_cons_succ]
      refine wpAnyH_take (i := 3) (v := ?_) rfl (by kernel_rfl) (by kernel_rfl) (by kernel_rfl) (fun _ _ _ h => h) (Or.inl ⟨by rfl, ?_⟩) (by assumption) ?_
      rotate_left
      · intro w hSw; (try dsimp only at hSw); go_simp; (try (with_reducible rfl))
      try simp only [List.getElem_toArray, List.getElem_cons_succ, List.getElem_cons_zero, Act.put, List.setIfInBounds_toArray, List.set_cons_zero, List.set_cons_succ]
      refine wpAnyH_take (i := 4) (v := ?_) rfl (by kernel_rfl) (by kernel_rfl) (by kernel_rfl) (fun _ _ _ h => h) (Or.inl ⟨by rfl, ?_⟩) (by assumption) ?_
      rotate_left
      · intro w hSw; (try dsimp only at hSw); go_simp; (try (with_reducible rfl))
      try simp only [List.getElem_toArray, List.getElem_cons_succ, List.getElem_cons_zero, Act.put, List.setIfInBounds_toArray, List.set_cons_zero, List.set_cons_succ]
      refine wpAnyH_take (i := 5) (v := ?_) rfl (by kernel_rfl) (by kernel_rfl) (by kernel_rfl) (fun _ _ _ h => h) (Or.inl ⟨by rfl, ?_⟩) (by assumption) ?_
      rotate_left
      · intro w hSw; (try dsimp only at hSw); go_simp; (try (with_reducible rfl))
      try simp only [List.getElem_toArray, List.getElem_cons_succ, List.getElem_cons_zero, Act.put, List.setIfInBounds_toArray, List.set_cons_zero, List.set_cons_succ]
      refine wpAnyH_take (i := 6) (v := ?_) rfl (by kernel_rfl) (by kernel_rfl) (by kernel_rfl) (fun _ _ _ h => h) (Or.inl ⟨by rfl, ?_⟩) (by assumption) ?_
      rotate_left
      · intro w hSw; (try dsimp only at hSw); go_simp; (try (with_reducible rfl))
      try simp only [List.getElem_toArray, List.getElem_cons_succ, List.getElem_cons_zero, Act.put, List.setIfInBounds_toArray, List.set_cons_zero, List.set_cons_succ]
      refine wpAnyH_take (i := 7) (v := ?_) rfl (by kernel_rfl) (by kernel_rfl) (by kernel_rfl) (fun _ _ _ h => h) (Or.inl ⟨by rfl, ?_⟩) (by assumption) ?_
      rotate_left
      · intro w hSw; (try dsimp only at hSw); go_simp; (try (with_reducible rfl))
      try simp only [List.getElem_toArray, List.getElem_cons_succ, List.getElem_cons_zero, Act.put, List.setIfInBounds_toArray, List.set_cons_zero, List.set_cons_succ]
      refine wpAnyH_ready (rs := [8]) (by kernel_rfl) (by simp) ?_
      refine AllReadyH.cons rfl (fun K hK => ?_) AllReadyH.nil
      go_simp
      go_at_call 85
      refine (CA.out _ HB.out.drew).mono ?_
      rintro e w3 ⟨rfl, hb3⟩
      have HB3 : Hid (Below W1.heap.size W1 w3) := HB.out.drew.trans (hb3.mono HB.out.drew.size)
      have HO3 : Hid (w3.ownsRow W1.heap.size 3 1 (.slice A2 k cap2) k (ys.map (Value.int .i64))) := ownBelow HO.out.drew hb3
      clear hb3
      go_wp2_with fail
      refine hK.out _ _ ?_ (fun hHeld => ?_)
      · clear hK K; exact HSK.out _ HB3.out
      clear hK K
      try simp only [List.getElem_toArray, List.getElem_cons_succ, List.getElem_cons_zero, Act.put, List.setIfInBounds_toArray, List.set_cons_zero, List.set_cons_succ]
      refine wpAnyH_take (i := 9) (v := ?_) rfl (by kernel_rfl) (by kernel_rfl) (by kernel_rfl) (fun _ _ _ h => h) (Or.inl ⟨by rfl, ?_⟩) (by assumption) ?_
      rotate_left
      · intro w hSw; (try dsimp only at hSw); go_simp; (try (with_reducible rfl))
      try simp only [List.getElem_toArray, List.getElem_cons_succ, List.getElem_cons_zero, Act.put, List.setIfInBounds_toArray, List.set_cons_zero, List.set_cons_succ]
      refine wpAnyH_ready (rs := [10]) (by kernel_rfl) (by simp) ?_
      refine AllReadyH.cons rfl (fun K hK => ?_) AllReadyH.nil
      go_simp
      refine hK.out _ _ ?_ (fun hHeld => ?_)
      · clear hK K; exact HSK.out _ (HB3.out.alloc HB3.out.size _)
      clear hK K
      try simp only [List.getElem_toArray, List.getElem_cons_succ, List.getElem_cons_zero, Act.put, List.setIfInBounds_toArray, List.set_cons_zero, List.set_cons_succ]
      refine wpAnyH_ready (rs := [11]) (by kernel_rfl) (by simp) ?_
      refine AllReadyH.cons rfl (fun K hK => ?_) AllReadyH.nil
      refine step_append_at _ rfl (.tmp 13) (.tmp 23) 22 rfl W1.heap.size 3 i0 _ 1 8 Try.underlying22 hi0 hza hzb hzc rfl (by decide) _ k _ rfl (HO3.out.alloc _) ⟨w3.heap.size, 0, none⟩ 1 1 [.int .i64 (x - ec)] rfl rfl (cell_one_new _ _ _) (by simp [Value.oneCell']) (by simp only [maxLen]; omega) (by omega) (by have := HB3.out.size; simp; omega) ?_
      intro v' w4 hown' hgrow _ hat
      obtain ⟨g', cap', rfl⟩ := ownsRow_succ hown'
      have HB4 : Hid (Below W1.heap.size W1 w4) := (HB3.out.alloc HB3.out.size _).grown hgrow (by have := HB3.out.size; simp; omega) (fun z e => (HO3.out.lt z e).1)
      have HO4 : Hid (w4.ownsRow W1.heap.size 3 1 (.slice (some ⟨g', 0, none⟩) (k + 1) cap') (k + 1) ((ys ++ [y]).map (Value.int .i64))) := by
        refine Lib.hid ?_
        rw [List.map_append, ← HYE.out]
        exact hown'
      clear hown' hgrow hat
      refine hK.out _ _ ?_ (fun hHeld => ?_)
      · clear hK K; exact HSK.out _ HB4.out
      clear hK K
      try simp only [List.getElem_toArray, List.getElem_cons_succ, List.getElem_cons_zero, Act.put, List.setIfInBounds_toArray, List.set_cons_zero, List.set_cons_succ]
      refine wpAnyH_take (i := 12) (v := ?_) rfl (by kernel_rfl) (by kernel_rfl) (by kernel_rfl) (fun _ _ _ h => h) (Or.inl ⟨by rfl, ?_⟩) (by assumption) ?_
      rotate_left
      · intro w hSw; (try dsimp only at hSw); go_simp; (try (with_reducible rfl))
      try simp only [List.getElem_toArray, List.getElem_cons_succ, List.getElem_cons_zero, Act.put, List.setIfInBounds_toArray, List.set_cons_zero, List.set_cons_succ]
      refine wpAnyH_done (by kernel_rfl) ?_ _
      have HYL4 : Hid ((ys ++ [y]).length = k + 1) := by show _ = _; rw [List.length_append, HYL.out]; rfl
      clear hHeld HO3 HB3 CA HSK
      go_wp2
      go_roundw
      case rel => exact ⟨k + 1, ys ++ [y], by omega, by go_num, HSTEP, HYL4, HO4, HB4⟩
      case measure => simp [intOf]; omega
    · have hkn : n ≤ k := by omega
      have HD := Lib.hid (rsR_done (by rw [HXL.out]; exact hkn) HI.out)
      have hkI : ¬ (k : Int) < (n : Int) := by omega
      clear hlt
      go_wp2
      go_ret
      refine ⟨⟨_, rfl, ?_⟩, BW.out.trans (HB.out.mono BW.out.size)⟩
      rw [HD.out, HYL.out]
      exact ownMono HO.out (by omega)

end Go.Proofs.Ytghpofhpkbgckaa
