import Derived.Test.YtdfaeoamighcgaaDoorV4
namespace Go.Proofs.YtdfaeoamighcgaaDoor
open Go.RowKit

set_option maxRecDepth 100000 in
set_option maxHeartbeats 4000000 in
theorem refVelocities_any (A : Option Addr) (n c : Nat) (xs : List Int) (w : World) (hr : RdI w A n xs) (hn : n ≤ 1000000) (hsm : Small xs) :
    Calls Tryd.prog 67 #[.slice A n c] w (OwnS w (velL xs)) := by
  have HR := Lib.hid hr
  have HLN : Hid (xs.length = n) := hr.1
  have HSM := Lib.hid hsm
  have hvl : velL xs = velTo xs (n - 1) := by unfold velL velTo; rw [hr.1]
  rw [hvl]
  clear hr hsm hvl
  obtain ⟨i0, hi0, hz0, hz1, hz2⟩ := info_parts intInfo'
  go_enter Tryd.func67, Tryd.ntmps67
  go_wp2
  go_loopw [3, 4] (fun p i wr => ∃ k : Nat, 1 ≤ k ∧ (k ≤ n ∨ k = 1) ∧ i = .int .i64 k ∧ Hid (wr.ownsRow w.heap.size 3 1 p (k - 1) ((velTo xs (k - 1)).map (Value.int .i64)) ∧ Below w.heap.size w wr)) (fun _ i _ => n + 1 - (intOf i).toNat)
  case atStart => exact ⟨1, Nat.le_refl _, .inr rfl, rfl, World.ownsRow_nil _ _ _ _, Below.refl _ _⟩
  case round =>
    obtain ⟨k, hk1, hk, rfl, HI⟩ := hrel
    by_cases hlt : k < n
    · have hkI : (k : Int) < (n : Int) := by omega
      obtain ⟨q, hq⟩ : ∃ q, k = q + 1 := ⟨k - 1, by omega⟩
      obtain ⟨ad, ha, hadb, hc⟩ := HR.out.2 (by omega)
      have h2 := (HI.out.2.cell (p := ad.add k) (by rw [addBlock]; exact hadb)).trans (hc k hlt)
      have h1 := (HI.out.2.cell (p := ad.add q) (by rw [addBlock]; exact hadb)).trans (hc q (by omega))
      clear hc
      subst ha
      have hx := HSM.out.at_ q
      have hy := HSM.out.at_ k
      have hjs := velTo_succ xs q
      rw [← hq] at hjs
      obtain ⟨x, hxe⟩ : ∃ x, xs.getD q 0 = x := ⟨_, rfl⟩
      obtain ⟨y, hye⟩ : ∃ y, xs.getD k 0 = y := ⟨_, rfl⟩
      rw [hxe] at h1 hx hjs
      rw [hye] at h2 hy hjs
      have hkq : k - 1 = q := by omega
      rw [hkq] at HI
      have HROW : Hid ((wr.drew.alloc (.cells #[.int .i64 (y - x)] 3)).ownsRow w.heap.size 3 1 _ q ((velTo xs q).map (Value.int .i64))) := HI.out.1.drew.alloc _
      have hwW : w.heap.size ≤ (wr.drew.alloc (.cells #[.int .i64 (y - x)] 3)).heap.size := by have := HI.out.2.size; show _ ≤ (wr.alloc _).heap.size; simp; omega
      have HS0 : Hid ((fun w' : World => w'.cell? (ad.add k) = some (.int .i64 y) ∧ w'.cell? (ad.add q) = some (.int .i64 x)) wr.drew) := ⟨h2, h1⟩
      have HSA : Hid (∀ (W : World) (o : Obj), (fun w' : World => w'.cell? (ad.add k) = some (.int .i64 y) ∧ w'.cell? (ad.add q) = some (.int .i64 x)) W → (fun w' : World => w'.cell? (ad.add k) = some (.int .i64 y) ∧ w'.cell? (ad.add q) = some (.int .i64 x)) (W.alloc o)) := fun W o h => ⟨cellA o h.1, cellA o h.2⟩
      have hpz1 : w.heap.size > (ad.add k).block := by rw [addBlock]; exact hadb
      have hpz2 : w.heap.size > (ad.add q).block := by rw [addBlock]; exact hadb
      have HLT := Lib.hid HI.out.1.lt
      have HSG : Hid (∀ w1 : World, (wr.drew.alloc (.cells #[.int .i64 (y - x)] 3)).grownBy w1 (Value.ownBlock _) → (fun w' : World => w'.cell? (ad.add k) = some (.int .i64 y) ∧ w'.cell? (ad.add q) = some (.int .i64 x)) w1) := fun w1 hg =>
        ⟨cellG (cellA (W := wr.drew) (.cells #[.int .i64 (y - x)] 3) h2) hg (fun e => by have := (HLT.out _ e).1; omega), cellG (cellA (W := wr.drew) (.cells #[.int .i64 (y - x)] 3) h1) hg (fun e => by have := (HLT.out _ e).1; omega)⟩
      have HB1 : Hid (Below w.heap.size w (wr.drew.alloc (.cells #[.int .i64 (y - x)] 3))) := HI.out.2.drew.alloc HI.out.2.size _
      have hz1' : IntKind.i64.wrap ((k : Int) - 1) = (q : Int) := by rw [show (k : Int) - 1 = (q : Int) by omega]; exact IntWalk.i64_in _ (by omega)
      have hz2' : (0 : Int) ≤ (q : Int) := by omega
      have hz3' : (q : Int) < (n : Int) := by omega
      have hz4' : IntKind.i64.wrap (y - x) = y - x := IntWalk.i64_in _ (by omega)
      have hz5' : (0 : Int) ≤ (k : Int) := by omega
      have HJS := Lib.hid hjs
      have HQ := Lib.hid hq
      clear hxe hye h1 h2 hjs hq hkq hpz1 hpz2
      go_wp2_with fail
      refine wp_region_held_drew (S := (fun w' : World => w'.cell? (ad.add k) = some (.int .i64 y) ∧ w'.cell? (ad.add q) = some (.int .i64 x))) (by kernel_rfl) ?_ ?_
      · first | (with_reducible assumption) | exact HS0.out | exact HSA.out _ _ hHeld
      intro hHeld
      refine wpAnyH_take (i := 0) (v := ?_) rfl (by kernel_rfl) (by kernel_rfl) (by kernel_rfl) (fun _ _ _ h => h) (Or.inl ⟨by rfl, ?_⟩) (by assumption) ?_
      rotate_left
      · intro w hSw; (try dsimp only at hSw); go_simp; (try (with_reducible rfl))
      try simp only [List.getElem_toArray, List.getElem_cons_succ, List.getElem_cons_zero, Act.put, List.setIfInBounds_toArray, List.set_cons_zero, List.set_cons_succ]
      refine wpAnyH_take (i := 1) (v := ?_) rfl (by kernel_rfl) (by kernel_rfl) (by kernel_rfl) (fun _ _ _ h => h) (Or.inl ⟨by rfl, ?_⟩) (by assumption) ?_
      rotate_left
      · intro w hSw; (try dsimp only at hSw); go_simp; (try (with_reducible rfl))
      try simp only [List.getElem_toArray, List.getElem_cons_succ, List.getElem_cons_zero, Act.put, List.setIfInBounds_toArray, List.set_cons_zero, List.set_cons_succ]
      refine wpAnyH_take (i := 2) (v := ?_) rfl (by kernel_rfl) (by kernel_rfl) (by kernel_rfl) (fun _ _ _ h => h) (Or.inl ⟨by rfl, ?_⟩) (by assumption) ?_
      rotate_left
      · intro w hSw; (try dsimp only at hSw); go_simp; (try (with_reducible rfl))
      try simp only [List.getElem_toArray, List.getElem_cons_succ, List.getElem_cons_zero, Act.put, List.setIfInBounds_toArray, List.set_cons_zero, List.set_cons_succ]
      refine wpAnyH_take (i := 3) (v := ?_) rfl (by kernel_rfl) (by kernel_rfl) (by kernel_rfl) (fun _ _ _ h => h) (Or.inl ⟨by rfl, ?_⟩) (by assumption) ?_
      rotate_left
      · intro w hSw; (try dsimp only at hSw); go_simp; (try (with_reducible rfl))
      try simp only [List.getElem_toArray, List.getElem_cons_succ, List.getElem_cons_zero, Act.put, List.setIfInBounds_toArray, List.set_cons_zero, List.set_cons_succ]
      refine wpAnyH_take (i := 4) (v := ?_) rfl (by kernel_rfl) (by kernel_rfl) (by kernel_rfl) (fun _ _ _ h => h) (Or.inl ⟨by rfl, ?_⟩) (by assumption) ?_
      rotate_left
      · intro w hSw; (try dsimp only at hSw); go_simp; (try (with_reducible rfl))
      try simp only [List.getElem_toArray, List.getElem_cons_succ, List.getElem_cons_zero, Act.put, List.setIfInBounds_toArray, List.set_cons_zero, List.set_cons_succ]
      refine wpAnyH_take (i := 5) (v := ?_) rfl (by kernel_rfl) (by kernel_rfl) (by kernel_rfl) (fun _ _ _ h => h) (Or.inl ⟨by rfl, ?_⟩) (by assumption) ?_
      rotate_left
      · intro w hSw; (try dsimp only at hSw); go_simp; (try (with_reducible rfl))
      try simp only [List.getElem_toArray, List.getElem_cons_succ, List.getElem_cons_zero, Act.put, List.setIfInBounds_toArray, List.set_cons_zero, List.set_cons_succ]
      refine wpAnyH_take (i := 6) (v := ?_) rfl (by kernel_rfl) (by kernel_rfl) (by kernel_rfl) (fun _ _ _ h => h) (Or.inl ⟨by rfl, ?_⟩) (by assumption) ?_
      rotate_left
      · intro w hSw; (try dsimp only at hSw); go_simp; (try (with_reducible rfl))
      try simp only [List.getElem_toArray, List.getElem_cons_succ, List.getElem_cons_zero, Act.put, List.setIfInBounds_toArray, List.set_cons_zero, List.set_cons_succ]
      refine wpAnyH_take (i := 7) (v := ?_) rfl (by kernel_rfl) (by kernel_rfl) (by kernel_rfl) (fun _ _ _ h => h) (Or.inl ⟨by rfl, ?_⟩) (by assumption) ?_
      rotate_left
      · intro w hSw; (try dsimp only at hSw); go_simp; (try (with_reducible rfl))
      try simp only [List.getElem_toArray, List.getElem_cons_succ, List.getElem_cons_zero, Act.put, List.setIfInBounds_toArray, List.set_cons_zero, List.set_cons_succ]
      refine wpAnyH_take (i := 8) (v := ?_) rfl (by kernel_rfl) (by kernel_rfl) (by kernel_rfl) (fun _ _ _ h => h) (Or.inl ⟨by rfl, ?_⟩) (by assumption) ?_
      rotate_left
      · intro w hSw; (try dsimp only at hSw); go_simp; (try (with_reducible rfl))
      try simp only [List.getElem_toArray, List.getElem_cons_succ, List.getElem_cons_zero, Act.put, List.setIfInBounds_toArray, List.set_cons_zero, List.set_cons_succ]
      refine wpAnyH_take (i := 9) (v := ?_) rfl (by kernel_rfl) (by kernel_rfl) (by kernel_rfl) (fun _ _ _ h => h) (Or.inl ⟨by rfl, ?_⟩) (by assumption) ?_
      rotate_left
      · intro w hSw; (try dsimp only at hSw); go_simp; (try (with_reducible rfl))
      try simp only [List.getElem_toArray, List.getElem_cons_succ, List.getElem_cons_zero, Act.put, List.setIfInBounds_toArray, List.set_cons_zero, List.set_cons_succ]
      refine wpAnyH_take (i := 10) (v := ?_) rfl (by kernel_rfl) (by kernel_rfl) (by kernel_rfl) (fun _ _ _ h => h) (Or.inl ⟨by rfl, ?_⟩) (by assumption) ?_
      rotate_left
      · intro w hSw; (try dsimp only at hSw); go_simp; (try (with_reducible rfl))
      try simp only [List.getElem_toArray, List.getElem_cons_succ, List.getElem_cons_zero, Act.put, List.setIfInBounds_toArray, List.set_cons_zero, List.set_cons_succ]
      refine wpAnyH_ready (rs := [11]) (by kernel_rfl) (by simp) ?_
      refine AllReadyH.cons rfl (fun K hK => ?_) AllReadyH.nil
      go_simp
      refine hK.out _ _ ?_ (fun hHeld => ?_)
      · clear hK K; first | (with_reducible assumption) | exact HS0.out | exact HSA.out _ _ hHeld
      clear hK K
      try simp only [List.getElem_toArray, List.getElem_cons_succ, List.getElem_cons_zero, Act.put, List.setIfInBounds_toArray, List.set_cons_zero, List.set_cons_succ]
      refine wpAnyH_ready (rs := [12]) (by kernel_rfl) (by simp) ?_
      refine AllReadyH.cons rfl (fun K hK => ?_) AllReadyH.nil
      refine step_append_at _ rfl (.tmp 11) (.tmp 22) 38 rfl w.heap.size 3 i0 _ 1 8 Tryd.underlying38 hi0 hz0 hz1 hz2 rfl (by decide) _ q _ rfl HROW.out ⟨wr.heap.size, 0, none⟩ 1 1 [.int .i64 (y - x)] rfl rfl (cell_one_new _ _ _) (by simp [Value.oneCell']) (by simp only [maxLen]; omega) (by omega) hwW ?_
      intro v' w1 hown' hgrow _ hat
      obtain ⟨g', cap', rfl⟩ := ownsRow_succ hown'
      refine hK.out _ _ ?_ (fun hHeld => ?_)
      · clear hK K; exact HSG.out _ hgrow
      clear hK K
      try simp only [List.getElem_toArray, List.getElem_cons_succ, List.getElem_cons_zero, Act.put, List.setIfInBounds_toArray, List.set_cons_zero, List.set_cons_succ]
      refine wpAnyH_take (i := 13) (v := ?_) rfl (by kernel_rfl) (by kernel_rfl) (by kernel_rfl) (fun _ _ _ h => h) (Or.inl ⟨by rfl, ?_⟩) (by assumption) ?_
      rotate_left
      · intro w hSw; (try dsimp only at hSw); go_simp; (try (with_reducible rfl))
      try simp only [List.getElem_toArray, List.getElem_cons_succ, List.getElem_cons_zero, Act.put, List.setIfInBounds_toArray, List.set_cons_zero, List.set_cons_succ]
      refine wpAnyH_done (by kernel_rfl) ?_ _
      have HFIN : Hid (w1.ownsRow w.heap.size 3 1 (.slice (some ⟨g', 0, none⟩) (q + 1) cap') (q + 1) ((velTo xs k).map (Value.int .i64)) ∧ Below w.heap.size w w1) := by
        refine ⟨by rw [HJS.out, List.map_append]; exact hown', HB1.out.grown hgrow hwW (fun z e => (HLT.out z e).1)⟩
      clear hHeld HS0 HSA HSG HROW hwW HB1 hz1' hz2' hz3' hz4' hown' hgrow hat HLT
      go_wp2
      go_roundw
      case rel => exact ⟨k + 1, by omega, by omega, by go_num, by show _ ∧ _; rw [Nat.add_sub_cancel]; have hq := HQ.out; subst hq; exact HFIN.out⟩
      case measure => simp [intOf]; omega
    · have hE : Hid (k - 1 = n - 1) := by show _ = _; omega
      go_wp2
      go_ret
      have h := HI.out
      rw [hE.out] at h
      exact ⟨⟨_, rfl, by rw [velTo_length]; exact h.1⟩, h.2⟩

end Go.Proofs.YtdfaeoamighcgaaDoor
