import Derived.Test.YtjjflbnopphciaaGreatDoorXD
import Derived.Test.YtjjflbnopphciaaGreatDoorP7
namespace Go.Proofs.YtjjflbnopphciaaGreatDoor
open Go.RowKit

theorem lit2 (W : World) (b : Nat) (x y : Int) (h : W.cell? ⟨b, 0, none⟩ = some (.int .i64 x)) (h' : W.cell? ⟨b, 1, none⟩ = some (.int .i64 y)) : RdI W (some ⟨b, 0, none⟩) 2 [x, y] :=
  ⟨rfl, fun _ => ⟨_, rfl, World.block_lt_of_cell? _ _ h, fun j hj => by
    rcases (by omega : j = 0 ∨ j = 1) with rfl | rfl
    · rw [addZ]; exact h
    · rw [addOff]; exact h'⟩⟩
theorem gapE_from {count : Int} {prev : Option (Int × Int)} {g : Int × Int} (h : fromB 0 (count - 1) [g.1, g.2] = false) : gapE count prev g = 6 := by
  unfold gapE
  rw [if_neg]
  rintro ⟨⟨a, b⟩, c, d⟩
  simp [fromB] at h
  omega
theorem gapE_in {count : Int} {prev : Option (Int × Int)} {g : Int × Int} (h : fromB 0 (count - 1) [g.1, g.2] = true) : gapE count prev g = (if g.2 < g.1 then 9 else match prev with | none => 0 | some p => if g.1 ≤ p.2 + 1 then 9 else 0) := by
  unfold gapE
  rw [if_pos (by simp [fromB] at h; omega)]
  rfl
theorem from_two {count lo hi : Int} (h : fromB 0 (count - 1) [lo, hi] = true) : 0 ≤ lo ∧ lo ≤ count - 1 ∧ 0 ≤ hi ∧ hi ≤ count - 1 := by simp [fromB] at h; omega

set_option maxRecDepth 100000 in
set_option maxHeartbeats 2000000 in
theorem checkGaps_any (g n c N : Nat) (gs : List (Int × Int)) (w : World) (hr : RdR w g n gs) (hn : n ≤ 1000000) (hN : N ≤ 1000000) :
    Calls Tryz.prog 56 #[.slice (some ⟨g, 0, none⟩) n c, .int .i64 N] w fun e w' => e = .returned (.int .i64 (gapsE N gs)) ∧ Below w.heap.size w w' := by
  have HR := Lib.hid hr
  have hgl := hr.1
  have HGL := Lib.hid hgl
  clear hr hgl
  have hN1 : IntKind.i64.wrap ((N : Int) - 1) = (N : Int) - 1 := IntWalk.i64_in _ (by omega)
  go_enter Tryz.func56, Tryz.ntmps56
  go_wp2
  go_loopw [9] (fun i wr => ∃ k : Nat, k ≤ n ∧ i = .int .i64 k ∧ Hid (gapsF N none gs = gapsF N (prevOf gs k) (gs.drop k)) ∧ Hid (Below w.heap.size w wr) ∧ Hid (∀ j, j < k → 0 ≤ (gs.getD j (0, 0)).2 ∧ (gs.getD j (0, 0)).2 ≤ (N : Int) - 1)) (fun i _ => n - (intOf i).toNat)
  case atStart => exact ⟨0, Nat.zero_le _, rfl, rfl, Below.refl _ _, fun j hj => by omega⟩
  case round =>
    obtain ⟨k, hk, rfl, HE, HB, HV⟩ := hrel
    by_cases hlt : k < n
    · have hkI : (k : Int) < (n : Int) := by omega
      have hstep := gapsF_step N gs k (by rw [HGL.out]; exact hlt)
      obtain ⟨h1, h2⟩ := (HR.out.below HB.out).2.2 k hlt
      obtain ⟨⟨lo, hi⟩, hxy⟩ : ∃ p, gs.getD k (0, 0) = p := ⟨_, rfl⟩
      rw [hxy] at h1 h2 hstep
      dsimp only at h1 h2
      have HSTEP := Lib.hid hstep
      have HXY := Lib.hid hxy
      clear hstep hxy
      have b0 : (wr.alloc (.cells #[.int .i64 lo, .int .i64 hi] 51)).cell? ⟨wr.heap.size, 0, none⟩ = some (.int .i64 lo) := by simp [go_sem]
      have b1 : (wr.alloc (.cells #[.int .i64 lo, .int .i64 hi] 51)).cell? ⟨wr.heap.size, 1, none⟩ = some (.int .i64 hi) := by simp [go_sem]
      have CA := Lib.hid (areFrom_any (some ⟨(wr.alloc (.cells #[.int .i64 lo, .int .i64 hi] 51)).heap.size, 0, none⟩) 2 2 [lo, hi] 0 ((N : Int) - 1) ((wr.alloc (.cells #[.int .i64 lo, .int .i64 hi] 51)).alloc (.cells #[.int .i64 lo, .int .i64 hi] 3)) (lit2 _ _ _ _ (by simp [go_sem]) (by simp [go_sem])) (by omega))
      rw [World.size_alloc] at CA
      have HBW : Hid (Below w.heap.size w ((wr.alloc (.cells #[.int .i64 lo, .int .i64 hi] 51)).alloc (.cells #[.int .i64 lo, .int .i64 hi] 3))) := (HB.out.alloc HB.out.size _).alloc (by have := HB.out.size; simp; omega) _
      have HBK : Hid (∀ j, j < n → ((wr.alloc (.cells #[.int .i64 lo, .int .i64 hi] 51)).alloc (.cells #[.int .i64 lo, .int .i64 hi] 3)).cell? ⟨g, j * 2 + 1, none⟩ = some (.int .i64 (gs.getD j (0, 0)).2)) := fun j hj => ((HR.out.below HBW.out).2.2 j hj).2
      have HB0 := Lib.hid b0
      have HB1 := Lib.hid b1
      clear b0 b1
      cases hf : fromB 0 ((N : Int) - 1) [lo, hi] with
      | false =>
        rw [hf] at CA
        have HG : Hid (gapsF N none gs = 6) := by show _ = _; rw [HE.out, HSTEP.out, gapE_from (g := (lo, hi)) hf]; rfl
        clear hf
        go_wp2_with (go_at_call 45; refine CA.out.mono ?_; rintro e w' ⟨rfl, rfl⟩)
        go_ret
        refine ⟨?_, HBW.out⟩
        unfold gapsE
        rw [HG.out]
        rfl
      | true =>
        rw [hf] at CA
        have hff := from_two hf
        have HV2 : Hid (∀ j, j < k + 1 → 0 ≤ (gs.getD j (0, 0)).2 ∧ (gs.getD j (0, 0)).2 ≤ (N : Int) - 1) := fun j hj => by
          rcases (by omega : j < k ∨ j = k) with h | rfl
          · exact HV.out j h
          · rw [HXY.out]; exact hff.2.2
        have HGE := Lib.hid (gapE_in (g := (lo, hi)) (prev := prevOf gs k) hf)
        clear hf
        by_cases hlh : hi < lo
        · have HG : Hid (gapsF N none gs = 9) := by show _ = _; rw [HE.out, HSTEP.out, HGE.out, if_pos hlh]; rfl
          go_wp2_with (go_at_call 45; refine CA.out.mono ?_; rintro e w' ⟨rfl, rfl⟩)
          go_ret
          refine ⟨?_, HBW.out⟩
          unfold gapsE
          rw [HG.out]
          rfl
        · rcases Nat.eq_zero_or_pos k with hk0 | hk0
          · subst hk0
            have HGE2 : Hid (gapsF N none gs = gapsF N (prevOf gs (0 + 1)) (gs.drop (0 + 1))) := by show _ = _; rw [HE.out, HSTEP.out, HGE.out, if_neg hlh]; rfl
            clear HSTEP HGE HE
            have hp0 : ((wr.alloc (.cells #[.int .i64 lo, .int .i64 hi] 51)).alloc (.cells #[.int .i64 lo, .int .i64 hi] 3)).cell? ⟨wr.heap.size, 0, none⟩ = some (.int .i64 lo) := cellA _ HB0.out
            have HSq : Hid ((fun w' : World => w'.cell? ⟨wr.heap.size, 0, none⟩ = some (.int .i64 lo)) ((wr.alloc (.cells #[.int .i64 lo, .int .i64 hi] 51)).alloc (.cells #[.int .i64 lo, .int .i64 hi] 3)).drew) := hp0
            clear hp0
            go_wp2_with fail
            refine CA.out.mono ?_
            rintro e w' ⟨rfl, rfl⟩
            go_wp2_with fail
            refine wp_region_held_drew (S := (fun w' : World => w'.cell? ⟨wr.heap.size, 0, none⟩ = some (.int .i64 lo))) (by kernel_rfl) ?_ ?_
            · exact HSq.out
            intro hHeld
            refine wpAnyH_take (i := 0) (v := ?_) rfl (by kernel_rfl) (by kernel_rfl) (by kernel_rfl) (fun _ _ _ h => h) (Or.inl ⟨by rfl, ?_⟩) (by assumption) ?_
            rotate_left
            · intro w hSw; (try dsimp only at hSw); go_simp; (try (with_reducible rfl))
            try simp only [List.getElem_toArray, List.getElem_cons_succ, List.getElem_cons_zero, Act.put, List.setIfInBounds_toArray, List.set_cons_zero, List.set_cons_succ]
            refine wpAnyH_take (i := 1) (v := ?_) rfl (by kernel_rfl) (by kernel_rfl) (by kernel_rfl) (fun _ _ _ h => h) (Or.inl ⟨by rfl, ?_⟩) (by assumption) ?_
            rotate_left
            · intro w hSw; (try dsimp only at hSw); go_simp; (try (with_reducible rfl))
            try simp only [List.getElem_toArray, List.getElem_cons_succ, List.getElem_cons_zero, Act.put, List.setIfInBounds_toArray, List.set_cons_zero, List.set_cons_succ]
            refine wpAnyH_take (i := 2) (v := ?_) rfl (by kernel_rfl) (by kernel_rfl) (by kernel_rfl) (fun _ _ _ h => h) (Or.inl ⟨by rfl, ?_⟩) (by assumption) ?_
            rotate_left
            · intro w hSw; (try dsimp only at hSw); go_simp; (try (with_reducible rfl))
            try simp only [List.getElem_toArray, List.getElem_cons_succ, List.getElem_cons_zero, Act.put, List.setIfInBounds_toArray, List.set_cons_zero, List.set_cons_succ]
            refine wpAnyH_take (i := 3) (v := undef) rfl (by kernel_rfl) (by kernel_rfl) (by kernel_rfl) (fun _ _ _ h => h) (Or.inr ⟨by rfl, rfl⟩) (by assumption) ?_
            try simp only [List.getElem_toArray, List.getElem_cons_succ, List.getElem_cons_zero, Act.put, List.setIfInBounds_toArray, List.set_cons_zero, List.set_cons_succ]
            refine wpAnyH_take (i := 4) (v := undef) rfl (by kernel_rfl) (by kernel_rfl) (by kernel_rfl) (fun _ _ _ h => h) (Or.inr ⟨by rfl, rfl⟩) (by assumption) ?_
            try simp only [List.getElem_toArray, List.getElem_cons_succ, List.getElem_cons_zero, Act.put, List.setIfInBounds_toArray, List.set_cons_zero, List.set_cons_succ]
            refine wpAnyH_take (i := 5) (v := undef) rfl (by kernel_rfl) (by kernel_rfl) (by kernel_rfl) (fun _ _ _ h => h) (Or.inr ⟨by rfl, rfl⟩) (by assumption) ?_
            try simp only [List.getElem_toArray, List.getElem_cons_succ, List.getElem_cons_zero, Act.put, List.setIfInBounds_toArray, List.set_cons_zero, List.set_cons_succ]
            refine wpAnyH_take (i := 6) (v := undef) rfl (by kernel_rfl) (by kernel_rfl) (by kernel_rfl) (fun _ _ _ h => h) (Or.inr ⟨by rfl, rfl⟩) (by assumption) ?_
            try simp only [List.getElem_toArray, List.getElem_cons_succ, List.getElem_cons_zero, Act.put, List.setIfInBounds_toArray, List.set_cons_zero, List.set_cons_succ]
            refine wpAnyH_take (i := 7) (v := undef) rfl (by kernel_rfl) (by kernel_rfl) (by kernel_rfl) (fun _ _ _ h => h) (Or.inr ⟨by rfl, rfl⟩) (by assumption) ?_
            try simp only [List.getElem_toArray, List.getElem_cons_succ, List.getElem_cons_zero, Act.put, List.setIfInBounds_toArray, List.set_cons_zero, List.set_cons_succ]
            refine wpAnyH_take (i := 8) (v := undef) rfl (by kernel_rfl) (by kernel_rfl) (by kernel_rfl) (fun _ _ _ h => h) (Or.inr ⟨by rfl, rfl⟩) (by assumption) ?_
            try simp only [List.getElem_toArray, List.getElem_cons_succ, List.getElem_cons_zero, Act.put, List.setIfInBounds_toArray, List.set_cons_zero, List.set_cons_succ]
            refine wpAnyH_take (i := 9) (v := undef) rfl (by kernel_rfl) (by kernel_rfl) (by kernel_rfl) (fun _ _ _ h => h) (Or.inr ⟨by rfl, rfl⟩) (by assumption) ?_
            try simp only [List.getElem_toArray, List.getElem_cons_succ, List.getElem_cons_zero, Act.put, List.setIfInBounds_toArray, List.set_cons_zero, List.set_cons_succ]
            refine wpAnyH_take (i := 10) (v := undef) rfl (by kernel_rfl) (by kernel_rfl) (by kernel_rfl) (fun _ _ _ h => h) (Or.inr ⟨by rfl, rfl⟩) (by assumption) ?_
            try simp only [List.getElem_toArray, List.getElem_cons_succ, List.getElem_cons_zero, Act.put, List.setIfInBounds_toArray, List.set_cons_zero, List.set_cons_succ]
            refine wpAnyH_take (i := 11) (v := undef) rfl (by kernel_rfl) (by kernel_rfl) (by kernel_rfl) (fun _ _ _ h => h) (Or.inr ⟨by rfl, rfl⟩) (by assumption) ?_
            try simp only [List.getElem_toArray, List.getElem_cons_succ, List.getElem_cons_zero, Act.put, List.setIfInBounds_toArray, List.set_cons_zero, List.set_cons_succ]
            refine wpAnyH_take (i := 12) (v := undef) rfl (by kernel_rfl) (by kernel_rfl) (by kernel_rfl) (fun _ _ _ h => h) (Or.inr ⟨by rfl, rfl⟩) (by assumption) ?_
            try simp only [List.getElem_toArray, List.getElem_cons_succ, List.getElem_cons_zero, Act.put, List.setIfInBounds_toArray, List.set_cons_zero, List.set_cons_succ]
            refine wpAnyH_take (i := 13) (v := ?_) rfl (by kernel_rfl) (by kernel_rfl) (by kernel_rfl) (fun _ _ _ h => h) (Or.inl ⟨by rfl, ?_⟩) (by assumption) ?_
            rotate_left
            · intro w hSw; (try dsimp only at hSw); go_simp; (try (with_reducible rfl))
            try simp only [List.getElem_toArray, List.getElem_cons_succ, List.getElem_cons_zero, Act.put, List.setIfInBounds_toArray, List.set_cons_zero, List.set_cons_succ]
            refine wpAnyH_take (i := 14) (v := ?_) rfl (by kernel_rfl) (by kernel_rfl) (by kernel_rfl) (fun _ _ _ h => h) (Or.inl ⟨by rfl, ?_⟩) (by assumption) ?_
            rotate_left
            · intro w hSw; (try dsimp only at hSw); go_simp; (try (with_reducible rfl))
            try simp only [List.getElem_toArray, List.getElem_cons_succ, List.getElem_cons_zero, Act.put, List.setIfInBounds_toArray, List.set_cons_zero, List.set_cons_succ]
            refine wpAnyH_done (by kernel_rfl) ?_ _
            clear hHeld HSq CA
            go_wp2
            go_roundw
            case rel => exact ⟨0 + 1, by omega, by go_num, HGE2.out, HBW.out.drew, HV2.out⟩
            case measure => simp [intOf]; omega
          · obtain ⟨q, rfl⟩ : ∃ q, k = q + 1 := ⟨k - 1, by omega⟩
            obtain ⟨⟨pl, ph⟩, hpp⟩ : ∃ p, gs.getD q (0, 0) = p := ⟨_, rfl⟩
            have hpc := HBK.out q (by omega)
            have hpr : prevOf gs (q + 1) = some (pl, ph) := by unfold prevOf; rw [if_neg (by omega), Nat.add_sub_cancel, hpp]
            rw [hpp] at hpc
            dsimp only at hpc
            have HGE2 : Hid (gapsF N none gs = if lo ≤ ph + 1 then 9 else gapsF N (prevOf gs (q + 1 + 1)) (gs.drop (q + 1 + 1))) := by
              show _ = _
              rw [HE.out, HSTEP.out, HGE.out, if_neg hlh, hpr]
              dsimp only
              by_cases e : lo ≤ ph + 1 <;> simp [e]
            have hp0 : ((wr.alloc (.cells #[.int .i64 lo, .int .i64 hi] 51)).alloc (.cells #[.int .i64 lo, .int .i64 hi] 3)).cell? ⟨wr.heap.size, 0, none⟩ = some (.int .i64 lo) := cellA _ HB0.out
            have HSq : Hid ((fun w' : World => w'.cell? ⟨wr.heap.size, 0, none⟩ = some (.int .i64 lo) ∧ w'.cell? ⟨g, q * 2 + 1, none⟩ = some (.int .i64 ph)) ((wr.alloc (.cells #[.int .i64 lo, .int .i64 hi] 51)).alloc (.cells #[.int .i64 lo, .int .i64 hi] 3)).drew) := ⟨hp0, hpc⟩
            have hwq : IntKind.i64.wrap (q : Int) = (q : Int) := IntWalk.i64_in _ (by omega)
            have hqn : (q : Int) < (n : Int) := by omega
            have hq0 : (0 : Int) ≤ (q : Int) := by omega
            have hq1 : (0 : Int) < (q : Int) + 1 := by omega
            have hphb : -1 ≤ ph ∧ ph ≤ 1000000 := by have := HV.out q (by omega); rw [hpp] at this; dsimp only at this; omega
            have hwp : IntKind.i64.wrap (ph + 1) = ph + 1 := IntWalk.i64_in _ (by omega)
            clear hp0 hpc hpp hpr HSTEP HGE HE
            by_cases hle : lo ≤ ph + 1
            · have hleB : decide (lo ≤ ph + 1) = true := decide_eq_true hle
              have HG : Hid (gapsF N none gs = 9) := by show _ = _; rw [HGE2.out, if_pos hle]
              clear HGE2
              go_wp2_with fail
              refine CA.out.mono ?_
              rintro e w' ⟨rfl, rfl⟩
              go_wp2_with fail
              refine wp_region_held_drew (S := (fun w' : World => w'.cell? ⟨wr.heap.size, 0, none⟩ = some (.int .i64 lo) ∧ w'.cell? ⟨g, q * 2 + 1, none⟩ = some (.int .i64 ph))) (by kernel_rfl) ?_ ?_
              · exact HSq.out
              intro hHeld
              refine wpAnyH_take (i := 0) (v := ?_) rfl (by kernel_rfl) (by kernel_rfl) (by kernel_rfl) (fun _ _ _ h => h) (Or.inl ⟨by rfl, ?_⟩) (by assumption) ?_
              rotate_left
              · intro w hSw; (try dsimp only at hSw); go_simp; (try (with_reducible rfl))
              try simp only [List.getElem_toArray, List.getElem_cons_succ, List.getElem_cons_zero, Act.put, List.setIfInBounds_toArray, List.set_cons_zero, List.set_cons_succ]
              refine wpAnyH_take (i := 1) (v := ?_) rfl (by kernel_rfl) (by kernel_rfl) (by kernel_rfl) (fun _ _ _ h => h) (Or.inl ⟨by rfl, ?_⟩) (by assumption) ?_
              rotate_left
              · intro w hSw; (try dsimp only at hSw); go_simp; (try (with_reducible rfl))
              try simp only [List.getElem_toArray, List.getElem_cons_succ, List.getElem_cons_zero, Act.put, List.setIfInBounds_toArray, List.set_cons_zero, List.set_cons_succ]
              refine wpAnyH_take (i := 2) (v := ?_) rfl (by kernel_rfl) (by kernel_rfl) (by kernel_rfl) (fun _ _ _ h => h) (Or.inl ⟨by rfl, ?_⟩) (by assumption) ?_
              rotate_left
              · intro w hSw; (try dsimp only at hSw); go_simp; (try (with_reducible rfl))
              try simp only [List.getElem_toArray, List.getElem_cons_succ, List.getElem_cons_zero, Act.put, List.setIfInBounds_toArray, List.set_cons_zero, List.set_cons_succ]
              refine wpAnyH_take (i := 3) (v := ?_) rfl (by kernel_rfl) (by kernel_rfl) (by kernel_rfl) (fun _ _ _ h => h) (Or.inl ⟨by rfl, ?_⟩) (by assumption) ?_
              rotate_left
              · intro w hSw; (try dsimp only at hSw); go_simp; (try (with_reducible rfl))
              try simp only [List.getElem_toArray, List.getElem_cons_succ, List.getElem_cons_zero, Act.put, List.setIfInBounds_toArray, List.set_cons_zero, List.set_cons_succ]
              refine wpAnyH_take (i := 4) (v := ?_) rfl (by kernel_rfl) (by kernel_rfl) (by kernel_rfl) (fun _ _ _ h => h) (Or.inl ⟨by rfl, ?_⟩) (by assumption) ?_
              rotate_left
              · intro w hSw; (try dsimp only at hSw); go_simp; (try (with_reducible rfl))
              try simp only [List.getElem_toArray, List.getElem_cons_succ, List.getElem_cons_zero, Act.put, List.setIfInBounds_toArray, List.set_cons_zero, List.set_cons_succ]
              refine wpAnyH_take (i := 5) (v := ?_) rfl (by kernel_rfl) (by kernel_rfl) (by kernel_rfl) (fun _ _ _ h => h) (Or.inl ⟨by rfl, ?_⟩) (by assumption) ?_
              rotate_left
              · intro w hSw; (try dsimp only at hSw); go_simp; (try (with_reducible rfl))
              try simp only [List.getElem_toArray, List.getElem_cons_succ, List.getElem_cons_zero, Act.put, List.setIfInBounds_toArray, List.set_cons_zero, List.set_cons_succ]
              refine wpAnyH_take (i := 6) (v := ?_) rfl (by kernel_rfl) (by kernel_rfl) (by kernel_rfl) (fun _ _ _ h => h) (Or.inl ⟨by rfl, ?_⟩) (by assumption) ?_
              rotate_left
              · intro w hSw; (try dsimp only at hSw); go_simp; (try (with_reducible rfl))
              try simp only [List.getElem_toArray, List.getElem_cons_succ, List.getElem_cons_zero, Act.put, List.setIfInBounds_toArray, List.set_cons_zero, List.set_cons_succ]
              refine wpAnyH_take (i := 7) (v := ?_) rfl (by kernel_rfl) (by kernel_rfl) (by kernel_rfl) (fun _ _ _ h => h) (Or.inl ⟨by rfl, ?_⟩) (by assumption) ?_
              rotate_left
              · intro w hSw; (try dsimp only at hSw); go_simp; (try (with_reducible rfl))
              try simp only [List.getElem_toArray, List.getElem_cons_succ, List.getElem_cons_zero, Act.put, List.setIfInBounds_toArray, List.set_cons_zero, List.set_cons_succ]
              refine wpAnyH_take (i := 8) (v := ?_) rfl (by kernel_rfl) (by kernel_rfl) (by kernel_rfl) (fun _ _ _ h => h) (Or.inl ⟨by rfl, ?_⟩) (by assumption) ?_
              rotate_left
              · intro w hSw; (try dsimp only at hSw); go_simp; (try (with_reducible rfl))
              try simp only [List.getElem_toArray, List.getElem_cons_succ, List.getElem_cons_zero, Act.put, List.setIfInBounds_toArray, List.set_cons_zero, List.set_cons_succ]
              refine wpAnyH_take (i := 9) (v := ?_) rfl (by kernel_rfl) (by kernel_rfl) (by kernel_rfl) (fun _ _ _ h => h) (Or.inl ⟨by rfl, ?_⟩) (by assumption) ?_
              rotate_left
              · intro w hSw; (try dsimp only at hSw); go_simp; (try (with_reducible rfl))
              try simp only [List.getElem_toArray, List.getElem_cons_succ, List.getElem_cons_zero, Act.put, List.setIfInBounds_toArray, List.set_cons_zero, List.set_cons_succ]
              refine wpAnyH_take (i := 10) (v := ?_) rfl (by kernel_rfl) (by kernel_rfl) (by kernel_rfl) (fun _ _ _ h => h) (Or.inl ⟨by rfl, ?_⟩) (by assumption) ?_
              rotate_left
              · intro w hSw; (try dsimp only at hSw); go_simp; (try (with_reducible rfl))
              try simp only [List.getElem_toArray, List.getElem_cons_succ, List.getElem_cons_zero, Act.put, List.setIfInBounds_toArray, List.set_cons_zero, List.set_cons_succ]
              refine wpAnyH_take (i := 11) (v := ?_) rfl (by kernel_rfl) (by kernel_rfl) (by kernel_rfl) (fun _ _ _ h => h) (Or.inl ⟨by rfl, ?_⟩) (by assumption) ?_
              rotate_left
              · intro w hSw; (try dsimp only at hSw); go_simp; (try (with_reducible rfl))
              try simp only [List.getElem_toArray, List.getElem_cons_succ, List.getElem_cons_zero, Act.put, List.setIfInBounds_toArray, List.set_cons_zero, List.set_cons_succ]
              refine wpAnyH_take (i := 12) (v := ?_) rfl (by kernel_rfl) (by kernel_rfl) (by kernel_rfl) (fun _ _ _ h => h) (Or.inl ⟨by rfl, ?_⟩) (by assumption) ?_
              rotate_left
              · intro w hSw; (try dsimp only at hSw); go_simp; (try (with_reducible rfl))
              try simp only [List.getElem_toArray, List.getElem_cons_succ, List.getElem_cons_zero, Act.put, List.setIfInBounds_toArray, List.set_cons_zero, List.set_cons_succ]
              refine wpAnyH_take (i := 13) (v := ?_) rfl (by kernel_rfl) (by kernel_rfl) (by kernel_rfl) (fun _ _ _ h => h) (Or.inl ⟨by rfl, ?_⟩) (by assumption) ?_
              rotate_left
              · intro w hSw; (try dsimp only at hSw); go_simp; (try (with_reducible rfl))
              try simp only [List.getElem_toArray, List.getElem_cons_succ, List.getElem_cons_zero, Act.put, List.setIfInBounds_toArray, List.set_cons_zero, List.set_cons_succ]
              refine wpAnyH_take (i := 14) (v := ?_) rfl (by kernel_rfl) (by kernel_rfl) (by kernel_rfl) (fun _ _ _ h => h) (Or.inl ⟨by rfl, ?_⟩) (by assumption) ?_
              rotate_left
              · intro w hSw; (try dsimp only at hSw); go_simp; (try (with_reducible rfl))
              try simp only [List.getElem_toArray, List.getElem_cons_succ, List.getElem_cons_zero, Act.put, List.setIfInBounds_toArray, List.set_cons_zero, List.set_cons_succ]
              refine wpAnyH_done (by kernel_rfl) ?_ _
              clear hHeld HSq CA
              go_wp2
              go_ret
              refine ⟨?_, HBW.out.drew⟩
              unfold gapsE
              rw [HG.out]
              rfl
            · have hleB : decide (lo ≤ ph + 1) = false := decide_eq_false hle
              have HG : Hid (gapsF N none gs = gapsF N (prevOf gs (q + 1 + 1)) (gs.drop (q + 1 + 1))) := by show _ = _; rw [HGE2.out, if_neg hle]
              clear HGE2
              go_wp2_with fail
              refine CA.out.mono ?_
              rintro e w' ⟨rfl, rfl⟩
              go_wp2_with fail
              refine wp_region_held_drew (S := (fun w' : World => w'.cell? ⟨wr.heap.size, 0, none⟩ = some (.int .i64 lo) ∧ w'.cell? ⟨g, q * 2 + 1, none⟩ = some (.int .i64 ph))) (by kernel_rfl) ?_ ?_
              · exact HSq.out
              intro hHeld
              refine wpAnyH_take (i := 0) (v := ?_) rfl (by kernel_rfl) (by kernel_rfl) (by kernel_rfl) (fun _ _ _ h => h) (Or.inl ⟨by rfl, ?_⟩) (by assumption) ?_
              rotate_left
              · intro w hSw; (try dsimp only at hSw); go_simp; (try (with_reducible rfl))
              try simp only [List.getElem_toArray, List.getElem_cons_succ, List.getElem_cons_zero, Act.put, List.setIfInBounds_toArray, List.set_cons_zero, List.set_cons_succ]
              refine wpAnyH_take (i := 1) (v := ?_) rfl (by kernel_rfl) (by kernel_rfl) (by kernel_rfl) (fun _ _ _ h => h) (Or.inl ⟨by rfl, ?_⟩) (by assumption) ?_
              rotate_left
              · intro w hSw; (try dsimp only at hSw); go_simp; (try (with_reducible rfl))
              try simp only [List.getElem_toArray, List.getElem_cons_succ, List.getElem_cons_zero, Act.put, List.setIfInBounds_toArray, List.set_cons_zero, List.set_cons_succ]
              refine wpAnyH_take (i := 2) (v := ?_) rfl (by kernel_rfl) (by kernel_rfl) (by kernel_rfl) (fun _ _ _ h => h) (Or.inl ⟨by rfl, ?_⟩) (by assumption) ?_
              rotate_left
              · intro w hSw; (try dsimp only at hSw); go_simp; (try (with_reducible rfl))
              try simp only [List.getElem_toArray, List.getElem_cons_succ, List.getElem_cons_zero, Act.put, List.setIfInBounds_toArray, List.set_cons_zero, List.set_cons_succ]
              refine wpAnyH_take (i := 3) (v := ?_) rfl (by kernel_rfl) (by kernel_rfl) (by kernel_rfl) (fun _ _ _ h => h) (Or.inl ⟨by rfl, ?_⟩) (by assumption) ?_
              rotate_left
              · intro w hSw; (try dsimp only at hSw); go_simp; (try (with_reducible rfl))
              try simp only [List.getElem_toArray, List.getElem_cons_succ, List.getElem_cons_zero, Act.put, List.setIfInBounds_toArray, List.set_cons_zero, List.set_cons_succ]
              refine wpAnyH_take (i := 4) (v := ?_) rfl (by kernel_rfl) (by kernel_rfl) (by kernel_rfl) (fun _ _ _ h => h) (Or.inl ⟨by rfl, ?_⟩) (by assumption) ?_
              rotate_left
              · intro w hSw; (try dsimp only at hSw); go_simp; (try (with_reducible rfl))
              try simp only [List.getElem_toArray, List.getElem_cons_succ, List.getElem_cons_zero, Act.put, List.setIfInBounds_toArray, List.set_cons_zero, List.set_cons_succ]
              refine wpAnyH_take (i := 5) (v := ?_) rfl (by kernel_rfl) (by kernel_rfl) (by kernel_rfl) (fun _ _ _ h => h) (Or.inl ⟨by rfl, ?_⟩) (by assumption) ?_
              rotate_left
              · intro w hSw; (try dsimp only at hSw); go_simp; (try (with_reducible rfl))
              try simp only [List.getElem_toArray, List.getElem_cons_succ, List.getElem_cons_zero, Act.put, List.setIfInBounds_toArray, List.set_cons_zero, List.set_cons_succ]
              refine wpAnyH_take (i := 6) (v := ?_) rfl (by kernel_rfl) (by kernel_rfl) (by kernel_rfl) (fun _ _ _ h => h) (Or.inl ⟨by rfl, ?_⟩) (by assumption) ?_
              rotate_left
              · intro w hSw; (try dsimp only at hSw); go_simp; (try (with_reducible rfl))
              try simp only [List.getElem_toArray, List.getElem_cons_succ, List.getElem_cons_zero, Act.put, List.setIfInBounds_toArray, List.set_cons_zero, List.set_cons_succ]
              refine wpAnyH_take (i := 7) (v := ?_) rfl (by kernel_rfl) (by kernel_rfl) (by kernel_rfl) (fun _ _ _ h => h) (Or.inl ⟨by rfl, ?_⟩) (by assumption) ?_
              rotate_left
              · intro w hSw; (try dsimp only at hSw); go_simp; (try (with_reducible rfl))
              try simp only [List.getElem_toArray, List.getElem_cons_succ, List.getElem_cons_zero, Act.put, List.setIfInBounds_toArray, List.set_cons_zero, List.set_cons_succ]
              refine wpAnyH_take (i := 8) (v := ?_) rfl (by kernel_rfl) (by kernel_rfl) (by kernel_rfl) (fun _ _ _ h => h) (Or.inl ⟨by rfl, ?_⟩) (by assumption) ?_
              rotate_left
              · intro w hSw; (try dsimp only at hSw); go_simp; (try (with_reducible rfl))
              try simp only [List.getElem_toArray, List.getElem_cons_succ, List.getElem_cons_zero, Act.put, List.setIfInBounds_toArray, List.set_cons_zero, List.set_cons_succ]
              refine wpAnyH_take (i := 9) (v := ?_) rfl (by kernel_rfl) (by kernel_rfl) (by kernel_rfl) (fun _ _ _ h => h) (Or.inl ⟨by rfl, ?_⟩) (by assumption) ?_
              rotate_left
              · intro w hSw; (try dsimp only at hSw); go_simp; (try (with_reducible rfl))
              try simp only [List.getElem_toArray, List.getElem_cons_succ, List.getElem_cons_zero, Act.put, List.setIfInBounds_toArray, List.set_cons_zero, List.set_cons_succ]
              refine wpAnyH_take (i := 10) (v := ?_) rfl (by kernel_rfl) (by kernel_rfl) (by kernel_rfl) (fun _ _ _ h => h) (Or.inl ⟨by rfl, ?_⟩) (by assumption) ?_
              rotate_left
              · intro w hSw; (try dsimp only at hSw); go_simp; (try (with_reducible rfl))
              try simp only [List.getElem_toArray, List.getElem_cons_succ, List.getElem_cons_zero, Act.put, List.setIfInBounds_toArray, List.set_cons_zero, List.set_cons_succ]
              refine wpAnyH_take (i := 11) (v := ?_) rfl (by kernel_rfl) (by kernel_rfl) (by kernel_rfl) (fun _ _ _ h => h) (Or.inl ⟨by rfl, ?_⟩) (by assumption) ?_
              rotate_left
              · intro w hSw; (try dsimp only at hSw); go_simp; (try (with_reducible rfl))
              try simp only [List.getElem_toArray, List.getElem_cons_succ, List.getElem_cons_zero, Act.put, List.setIfInBounds_toArray, List.set_cons_zero, List.set_cons_succ]
              refine wpAnyH_take (i := 12) (v := ?_) rfl (by kernel_rfl) (by kernel_rfl) (by kernel_rfl) (fun _ _ _ h => h) (Or.inl ⟨by rfl, ?_⟩) (by assumption) ?_
              rotate_left
              · intro w hSw; (try dsimp only at hSw); go_simp; (try (with_reducible rfl))
              try simp only [List.getElem_toArray, List.getElem_cons_succ, List.getElem_cons_zero, Act.put, List.setIfInBounds_toArray, List.set_cons_zero, List.set_cons_succ]
              refine wpAnyH_take (i := 13) (v := ?_) rfl (by kernel_rfl) (by kernel_rfl) (by kernel_rfl) (fun _ _ _ h => h) (Or.inl ⟨by rfl, ?_⟩) (by assumption) ?_
              rotate_left
              · intro w hSw; (try dsimp only at hSw); go_simp; (try (with_reducible rfl))
              try simp only [List.getElem_toArray, List.getElem_cons_succ, List.getElem_cons_zero, Act.put, List.setIfInBounds_toArray, List.set_cons_zero, List.set_cons_succ]
              refine wpAnyH_take (i := 14) (v := ?_) rfl (by kernel_rfl) (by kernel_rfl) (by kernel_rfl) (fun _ _ _ h => h) (Or.inl ⟨by rfl, ?_⟩) (by assumption) ?_
              rotate_left
              · intro w hSw; (try dsimp only at hSw); go_simp; (try (with_reducible rfl))
              try simp only [List.getElem_toArray, List.getElem_cons_succ, List.getElem_cons_zero, Act.put, List.setIfInBounds_toArray, List.set_cons_zero, List.set_cons_succ]
              refine wpAnyH_done (by kernel_rfl) ?_ _
              clear hHeld HSq CA
              go_wp2
              go_roundw
              case rel => exact ⟨q + 1 + 1, by omega, by go_num, HG.out, HBW.out.drew, HV2.out⟩
              case measure => simp [intOf]; omega
    · obtain rfl : n = k := by omega
      have HF : Hid (gapsE N gs = if (0, (N : Int) - 1) ∈ gs then 12 else 0) := by
        show _ = _
        unfold gapsE
        rw [HE.out, List.drop_eq_nil_of_le (by rw [HGL.out]; exact Nat.le_refl _)]
        rfl
      have CC := Lib.hid (containsR_any g n c gs 0 ((N : Int) - 1) wr (HR.out.below HB.out) (by omega))
      by_cases hm : (0, (N : Int) - 1) ∈ gs
      · rw [decide_eq_true hm] at CC
        have HG : Hid (gapsE N gs = 12) := by show _ = _; rw [HF.out, if_pos hm]
        clear hm HF
        go_wp2_with fail
        refine CC.out.mono ?_
        rintro e w' ⟨rfl, hb'⟩
        have HBF := Lib.hid (HB.out.trans (hb'.mono HB.out.size))
        clear hb' CC
        go_wp2
        go_ret
        exact ⟨by rw [HG.out]; rfl, HBF.out⟩
      · rw [decide_eq_false hm] at CC
        have HG : Hid (gapsE N gs = 0) := by show _ = _; rw [HF.out, if_neg hm]
        clear hm HF
        go_wp2_with fail
        refine CC.out.mono ?_
        rintro e w' ⟨rfl, hb'⟩
        have HBF := Lib.hid (HB.out.trans (hb'.mono HB.out.size))
        clear hb' CC
        go_wp2
        go_ret
        exact ⟨by rw [HG.out]; rfl, HBF.out⟩

end Go.Proofs.YtjjflbnopphciaaGreatDoor

namespace Go.Proofs.YtjjflbnopphciaaGreatDoor
open Go.RowKit

def brE (xs : List Int) (gs : List (Int × Int)) : Int := if posE xs = 0 then gapsE (xs.length : Nat) gs else posE xs
def brL (xs : List Int) (gs : List (Int × Int)) : List Int := if brE xs gs = 0 then bridgedL xs gs else []
theorem pos_ok {xs : List Int} (h : posE xs = 0) : xs.length ≤ 200 ∧ Small xs := by
  unfold posE at h
  by_cases h1 : 200 < xs.length
  · rw [if_pos h1] at h; omega
  · rw [if_neg h1] at h
    by_cases h2 : fromB (-1000000) 1000000 xs = true
    · refine ⟨by omega, fun x hx => ?_⟩
      unfold fromB at h2
      rw [List.all_eq_true] at h2
      simpa using h2 x hx
    · rw [if_neg h2] at h; omega

set_option maxRecDepth 100000 in
set_option maxHeartbeats 2000000 in
theorem Bridged_any (A : Option Addr) (n c g m cm : Nat) (xs : List Int) (gs : List (Int × Int)) (w : World) (hx : RdI w A n xs) (hr : RdR w g m gs) (hn : n ≤ 1000000) (hm : m ≤ 1000000) :
    Calls Tryz.prog 28 #[.slice A n c, .slice (some ⟨g, 0, none⟩) m cm] w (OwnRes w (brE xs gs) (brL xs gs)) := by
  have C1 := Lib.hid (checkPositions_any A n c xs w hx (by omega))
  have C2 := Lib.hid (checkGaps_any g m cm n gs w hr hm hn)
  have hln := hx.1
  have HX := Lib.hid hx
  have HR := Lib.hid hr
  have HLN := Lib.hid hln
  clear hx hr
  by_cases hE1 : posE xs = 0
  · rw [hE1] at C1
    have hbr : brE xs gs = gapsE n gs := by unfold brE; rw [if_pos hE1, hln]
    have hpo := pos_ok hE1
    clear hE1 hln
    by_cases hE2 : gapsE n gs = 0
    · rw [hE2] at C2 hbr
      have HL : Hid (brL xs gs = bridgedL xs gs) := by show _ = _; unfold brL; rw [if_pos hbr]
      rw [hbr, HL.out]
      have hF : gapsF n none gs = 0 ∧ (0, (n : Int) - 1) ∉ gs := by
        unfold gapsE at hE2
        by_cases h : gapsF n none gs = 0
        · rw [if_pos h] at hE2
          refine ⟨h, fun hm => ?_⟩
          rw [if_pos hm] at hE2; omega
        · rw [if_neg h] at hE2; exact absurd hE2 h
      have HF := Lib.hid hF
      have HPO := Lib.hid hpo
      clear hE2 hbr HL hF hpo
      go_enter Tryz.func28, Tryz.ntmps28
      go_wp2_with fail
      refine C1.out.mono ?_
      rintro e w' ⟨rfl, rfl⟩
      go_wp2_with fail
      refine C2.out.mono ?_
      rintro e w1 ⟨rfl, hb1⟩
      have HB1 := Lib.hid hb1
      have CC := Lib.hid (clone_any A n c xs w1 (HX.out.below hb1) hn)
      clear hb1 C1 C2
      go_wp2_with fail
      refine CC.out.mono ?_
      rintro e w2 ⟨⟨v, rfl, hown⟩, hb2⟩
      rw [HLN.out] at hown
      have HO : Hid (w2.ownsRow w.heap.size 3 1 v n (xs.map (Value.int .i64))) := ownMono hown HB1.out.size
      have HB2 := Lib.hid (HB1.out.trans (hb2.mono HB1.out.size))
      clear hown hb2 CC HB1
      obtain ⟨Ab, cb, rfl, _, _⟩ := rd_of_own HO.out
      go_wp2
      go_loopw [27] (fun i wr => ∃ k : Nat, k ≤ m ∧ i = .int .i64 k ∧ Hid (wr.ownsRow w.heap.size 3 1 (.slice Ab n cb) n ((bridgedL xs (gs.take k)).map (Value.int .i64)) ∧ Below w.heap.size w wr)) (fun i _ => m - (intOf i).toNat)
      case atStart => exact ⟨0, Nat.zero_le _, rfl, HO.out, HB2.out⟩
      case round =>
        obtain ⟨k, hk, rfl, HI⟩ := hrel
        by_cases hlt : k < m
        · have hkI : (k : Int) < (m : Int) := by omega
          obtain ⟨h1, h2⟩ := (HR.out.below HI.out.2).2.2 k hlt
          have hmem : gs.getD k (0, 0) ∈ gs := by
            rw [List.getD_eq_getElem?_getD, List.getElem?_eq_getElem (by rw [HR.out.1]; exact hlt)]
            exact List.getElem_mem _
          have hok := gapsF_ok HF.out.1 _ hmem
          have htk : gs.take (k + 1) = gs.take k ++ [gs.getD k (0, 0)] := by
            rw [List.take_succ_eq_append_getElem (by rw [HR.out.1]; exact hlt)]
            simp [List.getD_eq_getElem?_getD, List.getElem?_eq_getElem (show k < gs.length by rw [HR.out.1]; exact hlt)]
          have hnot : ¬ (gs.getD k (0, 0) = (0, (n : Int) - 1)) := fun e => HF.out.2 (e ▸ hmem)
          obtain ⟨⟨lo, hi⟩, hxy⟩ : ∃ p, gs.getD k (0, 0) = p := ⟨_, rfl⟩
          rw [hxy] at h1 h2 hok htk hnot
          dsimp only at h1 h2 hok
          obtain ⟨lo, rfl⟩ := Int.eq_ofNat_of_zero_le hok.1
          obtain ⟨hi, rfl⟩ := Int.eq_ofNat_of_zero_le (show 0 ≤ hi by omega)
          have HTK : Hid (bridgedL xs (gs.take (k + 1)) = bridgeL (bridgedL xs (gs.take k)) lo hi) := by
            show _ = _
            rw [htk, bridgedL_snoc]; rfl
          have hn0 : 0 < n := by omega
          obtain ⟨g', e'⟩ : ∃ g', Ab = some ⟨g', 0, none⟩ := by
            rcases HI.out.1.2 with ⟨_, h0⟩ | ⟨g', cap, cur, e, _⟩
            · omega
            · injection e with e; exact ⟨g', e⟩
          subst e'
          have HBR := Lib.hid (bridge_any w.heap.size g' n cb lo hi (bridgedL xs (gs.take k)) (wr.alloc (.cells #[.int .i64 (lo : Int), .int .i64 (hi : Int)] 51)) (HI.out.1.alloc _) (bridgedL_small HPO.out.2 _) (by have := HPO.out.1; have := HLN.out; omega) (by omega) (by omega) (fun ⟨a, b⟩ => hnot (by rw [Prod.mk.injEq]; omega)))
          have hg' : w.heap.size ≤ g' := (HI.out.1.lt g' rfl).1
          clear hmem htk hnot hxy
          go_wp2_with fail
          refine HBR.out.mono ?_
          rintro e w3 ⟨⟨u, rfl⟩, ho3, hg3⟩
          have HN : Hid (w3.ownsRow w.heap.size 3 1 (.slice (some ⟨g', 0, none⟩) n cb) n ((bridgedL xs (gs.take (k + 1))).map (Value.int .i64)) ∧ Below w.heap.size w w3) := by
            refine ⟨by rw [HTK.out]; exact ho3, (HI.out.2.alloc HI.out.2.size _).grown hg3 (by have := HI.out.2.size; simp; omega) (fun z e => by injection e; omega)⟩
          clear HBR ho3 hg3
          go_wp2
          go_roundw
          case rel => exact ⟨k + 1, by omega, by go_num, HN.out⟩
          case measure => simp [intOf]; omega
        · obtain rfl : k = m := by omega
          have HFIN : Hid (gs.take k = gs) := by show _ = _; rw [List.take_of_length_le (by rw [HR.out.1]; exact Nat.le_refl _)]
          go_wp2
          go_ret2
          refine ⟨⟨_, rfl, ?_⟩, HI.out.2⟩
          have h := HI.out.1
          rw [HFIN.out] at h
          rw [bridgedL_length, HLN.out]
          exact h
    · rw [hbr]
      have HL : Hid (brL xs gs = []) := by show _ = _; unfold brL; rw [if_neg (by rw [hbr]; exact hE2)]
      rw [HL.out]
      obtain ⟨E, hEe⟩ : ∃ E, gapsE n gs = E := ⟨_, rfl⟩
      rw [hEe] at hE2 C2 ⊢
      have h1 : (E != 0) = true := by simpa using hE2
      clear hEe hE2 hbr HL hpo
      go_enter Tryz.func28, Tryz.ntmps28
      go_wp2_with fail
      refine C1.out.mono ?_
      rintro e w' ⟨rfl, rfl⟩
      go_wp2_with fail
      refine C2.out.mono ?_
      rintro e w1 ⟨rfl, hb1⟩
      have HB1 := Lib.hid hb1
      clear hb1 C1 C2
      go_wp2
      go_ret2
      exact OwnRes.none_ HB1.out
  · have hbr : brE xs gs = posE xs := by unfold brE; rw [if_neg hE1]
    have HL : Hid (brL xs gs = []) := by show _ = _; unfold brL; rw [if_neg (by rw [hbr]; exact hE1)]
    rw [hbr, HL.out]
    obtain ⟨E, hEe⟩ : ∃ E, posE xs = E := ⟨_, rfl⟩
    rw [hEe] at hE1 C1 ⊢
    have h1 : (E != 0) = true := by simpa using hE1
    clear hEe hE1 hbr HL C2 hln
    go_enter Tryz.func28, Tryz.ntmps28
    go_wp2_with fail
    refine C1.out.mono ?_
    rintro e w' ⟨rfl, rfl⟩
    clear C1
    go_wp2
    go_ret2
    exact OwnRes.none_ (Below.refl _ _)

end Go.Proofs.YtjjflbnopphciaaGreatDoor

namespace Go.Proofs.YtjjflbnopphciaaGreatDoor
open Go.RowKit

theorem ownLater {w w' : World} {base : Nat} {e : TypeId} {size : Nat} {v : Value} {n : Nat} {xs : List Value} (h : w.ownsRow base e size v n xs) (hb : Below w.heap.size w w') : w'.ownsRow base e size v n xs := by
  refine ⟨h.1, ?_⟩
  rcases h.2 with h0 | ⟨g, cap, cur, h1, h2, h3, h4⟩
  · exact .inl h0
  · exact .inr ⟨g, cap, cur, h1, h2, (hb.block g (Array.getElem?_eq_some_iff.1 h3).1).trans h3, h4⟩

def wallE (p : Int × Int) : Int := if fromB (-1000000) 1000000 [p.1, p.2] = true then (if p.2 < p.1 then 9 else 0) else 2
def wallsF : List (Int × Int) → Int
  | [] => 0
  | p :: ps => if wallE p = 0 then wallsF ps else wallE p
def wallsE (ws : List (Int × Int)) : Int := if 200 < ws.length then 8 else wallsF ws
def matP (p : Int × Int) : Int × Int := (p.1 + p.2, p.2 - p.1)
def pairCells (ps : List (Int × Int)) : List Value := ps.flatMap fun p => [.int .i64 p.1, .int .i64 p.2]
theorem pairCells_snoc (ps : List (Int × Int)) (p : Int × Int) : pairCells (ps ++ [p]) = pairCells ps ++ [.int .i64 p.1, .int .i64 p.2] := by simp [pairCells]
theorem wallsF_step (ws : List (Int × Int)) (k : Nat) (h : k < ws.length) : wallsF (ws.drop k) = if wallE (ws.getD k (0, 0)) = 0 then wallsF (ws.drop (k + 1)) else wallE (ws.getD k (0, 0)) := by
  rw [List.drop_eq_getElem_cons h]
  simp only [wallsF, List.getD_eq_getElem?_getD, List.getElem?_eq_getElem h, Option.getD_some]
theorem wallE_ok {p : Int × Int} (h : wallE p = 0) : -1000000 ≤ p.1 ∧ p.1 ≤ p.2 ∧ p.2 ≤ 1000000 := by
  unfold wallE at h
  by_cases h1 : fromB (-1000000) 1000000 [p.1, p.2] = true
  · rw [if_pos h1] at h
    by_cases h2 : p.2 < p.1
    · rw [if_pos h2] at h; omega
    · simp [fromB] at h1; omega
  · rw [if_neg h1] at h; omega

theorem checkWalls_any (l r : Int) (w : World) :
    Calls Tryz.prog 63 #[.agg #[.int .i64 l, .int .i64 r]] w fun e w' => e = .returned (.int .i64 (wallE (l, r))) ∧ Below w.heap.size w w' := by
  have C := Lib.hid (areAtMost_any (some ⟨(w.alloc (.cells #[.int .i64 l, .int .i64 r] 83)).heap.size, 0, none⟩) 2 2 [l, r] 1000000 ((w.alloc (.cells #[.int .i64 l, .int .i64 r] 83)).alloc (.cells #[.int .i64 l, .int .i64 r] 3)) (lit2 _ _ _ _ (by simp [go_sem]) (by simp [go_sem])) (by omega) (by omega))
  rw [World.size_alloc] at C
  have HB : Hid (Below w.heap.size w ((w.alloc (.cells #[.int .i64 l, .int .i64 r] 83)).alloc (.cells #[.int .i64 l, .int .i64 r] 3))) := ((Below.refl _ w).alloc (Nat.le_refl _) _).alloc (by simp) _
  have HE : Hid (wallE (l, r) = if fromB (-1000000) 1000000 [l, r] = true then (if r < l then 9 else 0) else 2) := rfl
  obtain ⟨t, ht⟩ : ∃ t, fromB (-1000000) 1000000 [l, r] = t := ⟨_, rfl⟩
  have HE2 : Hid (wallE (l, r) = if t = true then (if r < l then 9 else 0) else 2) := by show _ = _; rw [HE.out, ht]
  rw [ht] at C
  clear ht HE
  cases t
  · go_enter Tryz.func63, Tryz.ntmps63
    go_wp2_with (go_at_call 60; refine C.out.mono ?_; rintro e w' ⟨rfl, rfl⟩)
    go_ret
    exact ⟨by rw [HE2.out]; rfl, HB.out⟩
  · by_cases hrl : r < l
    all_goals
      go_enter Tryz.func63, Tryz.ntmps63
      go_wp2_with (go_at_call 60; refine C.out.mono ?_; rintro e w' ⟨rfl, rfl⟩)
      go_ret
      exact ⟨by rw [HE2.out]; simp [hrl], HB.out⟩

theorem matrixOf_any (l r : Int) (w : World) (h : -100000000 ≤ l ∧ l ≤ 100000000) (h' : -100000000 ≤ r ∧ r ≤ 100000000) :
    Calls Tryz.prog 64 #[.agg #[.int .i64 l, .int .i64 r]] w fun e w' => e = .returned (.agg #[.int .i64 (l + r), .int .i64 (r - l)]) ∧ Below w.heap.size w w' := by
  go_enter Tryz.func64, Tryz.ntmps64
  go_wp2
  refine bodyPost_ret (v := .agg #[.int .i64 (l + r), .int .i64 (r - l)]) (by simp [results, Tryz.results64, go_sem]) rfl ⟨rfl, ?_⟩
  exact ((Below.refl _ w).alloc (Nat.le_refl _) _).alloc (by simp) _

theorem matInfo : (Tryz.prog.info? 86).map (fun i => (i.zero, i.size, i.bytes)) = some (some (.agg #[.int .i64 0, .int .i64 0]), 2, 16) := by kernel_rfl

def OwnResM (w : World) (E : Int) (ps : List (Int × Int)) (e : Ending) (w' : World) : Prop :=
  (∃ v, e = .returned (.tuple #[v, .int .i64 E]) ∧ w'.ownsRow w.heap.size 86 2 v ps.length (pairCells ps)) ∧ Below w.heap.size w w'
theorem OwnResM.none_ {w w' : World} {E : Int} (h : Below w.heap.size w w') : OwnResM w E [] (.returned (.tuple #[.slice none 0 0, .int .i64 E])) w' := ⟨⟨_, rfl, World.ownsRow_nil _ _ _ _⟩, h⟩
def matL (ws : List (Int × Int)) : List (Int × Int) := if wallsE ws = 0 then ws.map matP else []
theorem two_new (w : World) (x y : Value) (t : TypeId) : ∀ j u, [x, y][j]? = some u → (w.alloc (.cells #[x, y] t)).cell? ((⟨w.heap.size, 0, none⟩ : Addr).add j) = some u := by
  intro j u hj
  match j, hj with
  | 0, hj => simp at hj; subst hj; simp [Addr.add]
  | 1, hj => simp at hj; subst hj; simp [Addr.add]

set_option maxRecDepth 100000 in
set_option maxHeartbeats 2000000 in
theorem converted_mat (g n c : Nat) (ws : List (Int × Int)) (w : World) (hr : RdR w g n ws) (hn : n ≤ 1000000) :
    Calls Tryz.prog 62 #[.slice (some ⟨g, 0, none⟩) n c, .func (.func 63) #[] #[], .func (.func 64) #[] #[]] w (OwnResM w (wallsE ws) (matL ws)) := by
  have HR := Lib.hid hr
  have hln := hr.1
  have HE : Hid (wallsE ws = if 200 < n then 8 else wallsF ws) := by show _ = _; unfold wallsE; rw [hln]
  have HLN := Lib.hid hln
  clear hr hln
  obtain ⟨i0, hi0, hz0, hz1, hz2⟩ := info_parts matInfo
  by_cases h1 : 200 < n
  · have h1I : (200 : Int) < (n : Int) := by omega
    have HL : Hid (matL ws = []) := by show _ = _; unfold matL; rw [if_neg (by rw [HE.out, if_pos h1]; decide)]
    have HE2 : Hid (wallsE ws = 8) := by show _ = _; rw [HE.out, if_pos h1]
    rw [HE2.out, HL.out]
    go_enter Tryz.func62, Tryz.ntmps62
    go_wp2
    go_ret2
    exact OwnResM.none_ (Below.refl _ _)
  · have h1I : ¬ (200 : Int) < (n : Int) := by omega
    have HE2 : Hid (wallsE ws = wallsF ws) := by show _ = _; rw [HE.out, if_neg h1]
    go_enter Tryz.func62, Tryz.ntmps62
    go_wp2
    go_loopw [8, 17] (fun v i wr => ∃ k : Nat, k ≤ n ∧ i = .int .i64 k ∧ Hid (wallsF ws = wallsF (ws.drop k)) ∧ Hid (wr.ownsRow w.heap.size 86 2 v k (pairCells ((ws.take k).map matP)) ∧ Below w.heap.size w wr)) (fun _ i _ => n - (intOf i).toNat)
    case atStart => exact ⟨0, Nat.zero_le _, rfl, rfl, World.ownsRow_nil _ _ _ _, Below.refl _ _⟩
    case round =>
      obtain ⟨k, hk, rfl, HF, HI⟩ := hrel
      by_cases hlt : k < n
      · have hkI : (k : Int) < (n : Int) := by omega
        obtain ⟨q1, q2⟩ := (HR.out.below HI.out.2).2.2 k hlt
        have hstep := wallsF_step ws k (by rw [HLN.out]; exact hlt)
        have htk : ws.take (k + 1) = ws.take k ++ [ws.getD k (0, 0)] := by
          rw [List.take_succ_eq_append_getElem (by rw [HLN.out]; exact hlt)]
          simp [List.getD_eq_getElem?_getD, List.getElem?_eq_getElem (show k < ws.length by rw [HLN.out]; exact hlt)]
        obtain ⟨⟨l, r⟩, hxy⟩ : ∃ p, ws.getD k (0, 0) = p := ⟨_, rfl⟩
        rw [hxy] at q1 q2 hstep htk
        dsimp only at q1 q2
        have HST := Lib.hid hstep
        have HTK := Lib.hid htk
        clear hstep htk hxy
        have CW := Lib.hid (checkWalls_any l r (wr.alloc (.cells #[.int .i64 l, .int .i64 r] 83)))
        have b1 := Bk.new wr 83 #[.int .i64 l, .int .i64 r]
        have HB1 := Lib.hid b1
        clear b1
        by_cases hw0 : wallE (l, r) = 0
        · have hok := wallE_ok hw0
          dsimp only at hok
          rw [hw0] at CW
          have HF2 : Hid (wallsF ws = wallsF (ws.drop (k + 1))) := by show _ = _; rw [HF.out, HST.out, if_pos hw0]
          clear hw0
          go_wp2_with fail
          refine CW.out.mono ?_
          rintro e w2 ⟨rfl, hb2⟩
          have HB2 := Lib.hid (HB1.out.below hb2 (by simp))
          have HO2 := Lib.hid (ownLater (HI.out.1.alloc (.cells #[.int .i64 l, .int .i64 r] 83)) hb2)
          have HBW2 := Lib.hid ((HI.out.2.alloc HI.out.2.size (.cells #[.int .i64 l, .int .i64 r] 83)).trans (hb2.mono (by have := HI.out.2.size; simp; omega)))
          have d0 : w2.cell? ⟨wr.heap.size, 0, none⟩ = some (.int .i64 l) := by rw [HB2.out.cell]; rfl
          have d1 : w2.cell? ⟨wr.heap.size, 1, none⟩ = some (.int .i64 r) := by rw [HB2.out.cell]; rfl
          have CM := Lib.hid (matrixOf_any l r w2 (by omega) (by omega))
          clear hb2 CW
          go_wp2_with fail
          refine CM.out.mono ?_
          rintro e w3 ⟨rfl, hb3⟩
          have HO3 := Lib.hid (ownLater HO2.out hb3)
          have HBW3 := Lib.hid (HBW2.out.trans (hb3.mono HBW2.out.size))
          clear hb3 CM d0 d1
          go_wp2_with (at_builtin; refine wpList_append_own _ rfl (.tmp 27) (.tmp 31) 79 rfl w.heap.size 86 i0 _ 2 16 Tryz.underlying79 hi0 hz0 hz1 hz2 rfl (by decide) _ _ _ rfl (HO3.out.alloc _) ⟨w3.heap.size, 0, none⟩ 1 1 [.int .i64 (l + r), .int .i64 (r - l)] rfl rfl (two_new _ _ _ _) (by simp [Value.oneCell']) (by unfold maxLen; omega) (by omega) (by have := HBW3.out.size; simp; omega) ?_)
          intro v' w4 hown' hgrow _
          have HN : Hid (w4.ownsRow w.heap.size 86 2 v' (k + 1) (pairCells ((ws.take (k + 1)).map matP)) ∧ Below w.heap.size w w4) := by
            refine ⟨?_, (HBW3.out.alloc HBW3.out.size _).grown hgrow (by have := HBW3.out.size; simp; omega) (fun z e => (HO3.out.lt z e).1)⟩
            rw [HTK.out, List.map_append, List.map_cons, List.map_nil, pairCells_snoc, List.map_take]
            exact hown'
          clear hown' hgrow
          go_wp2
          go_roundw
          case rel => exact ⟨k + 1, by omega, by go_num, HF2.out, HN.out⟩
          case measure => simp [intOf]; omega
        · obtain ⟨E, hEe⟩ : ∃ E, wallE (l, r) = E := ⟨_, rfl⟩
          have HFE : Hid (wallsE ws = E) := by show _ = _; rw [HE2.out, HF.out, HST.out, if_neg hw0, hEe]
          rw [hEe] at CW hw0
          have hne : (E != 0) = true := by simpa using hw0
          have HL : Hid (matL ws = []) := by show _ = _; unfold matL; rw [if_neg (by rw [HFE.out]; exact hw0)]
          clear hEe hw0 HST
          go_wp2_with fail
          refine CW.out.mono ?_
          rintro e w2 ⟨rfl, hb2⟩
          have HBW2 := Lib.hid ((HI.out.2.alloc HI.out.2.size (.cells #[.int .i64 l, .int .i64 r] 83)).trans (hb2.mono (by have := HI.out.2.size; simp; omega)))
          clear hb2 CW
          go_wp2
          go_ret2
          rw [HFE.out, HL.out]
          exact OwnResM.none_ HBW2.out
      · obtain rfl : k = n := by omega
        have HF2 : Hid (wallsE ws = 0) := by show _ = _; rw [HE2.out, HF.out, List.drop_eq_nil_of_le (by rw [HLN.out]; exact Nat.le_refl _)]; rfl
        have HL : Hid (matL ws = ws.map matP) := by show _ = _; unfold matL; rw [if_pos HF2.out]
        have HT : Hid (ws.take k = ws) := by show _ = _; rw [List.take_of_length_le (by rw [HLN.out]; exact Nat.le_refl _)]
        go_wp2
        go_ret2
        rw [HF2.out, HL.out]
        refine ⟨⟨_, rfl, ?_⟩, HI.out.2⟩
        have h := HI.out.1
        rw [HT.out] at h
        rw [List.length_map, HLN.out]
        exact h

theorem MatrixOf_any (g n c : Nat) (ws : List (Int × Int)) (w : World) (hr : RdR w g n ws) (hn : n ≤ 1000000) :
    Calls Tryz.prog 35 #[.slice (some ⟨g, 0, none⟩) n c] w (OwnResM w (wallsE ws) (matL ws)) := by
  have C := Lib.hid (converted_mat g n c ws w hr hn)
  clear hr
  go_enter Tryz.func35, Tryz.ntmps35
  go_wp2_with fail
  refine C.out.mono ?_
  rintro e w1 ⟨⟨v, rfl, ho⟩, hb⟩
  have HO := Lib.hid ho
  have HB := Lib.hid hb
  clear ho hb C
  go_wp2
  go_ret2
  exact ⟨⟨_, rfl, HO.out⟩, HB.out⟩

end Go.Proofs.YtjjflbnopphciaaGreatDoor

namespace Go.Proofs.YtjjflbnopphciaaGreatDoor
open Go.RowKit

theorem RdI.drewN {w : World} {A : Option Addr} {n : Nat} {xs : List Int} (h : RdI w A n xs) (k : Nat) : RdI (w.drewN k) A n xs := h
theorem RdI.drew {w : World} {A : Option Addr} {n : Nat} {xs : List Int} (h : RdI w A n xs) : RdI w.drew A n xs := h

theorem ints_any (A B : Option Addr) (n m c d : Nat) (xs ys : List Int) (w : World) (ha : RdI w A n xs) (hb : RdI w B m ys) (hn : n ≤ 9223372036854775806) (hm : m ≤ 9223372036854775806) :
    Calls Tryz.prog 12 #[.slice A n c, .slice B m d] w fun e w' => e = .returned (.bool (decide (xs = ys))) ∧ ∃ k, w' = w.drewN k := by
  by_cases hnm : n = m
  · subst hnm
    have HA := Lib.hid ha; clear ha
    have HB := Lib.hid hb; clear hb
    go_enter Tryz.func12, Tryz.ntmps12
    go_wp2
    go_loopw [5] (fun i wr => ∃ k : Nat, k ≤ n ∧ i = .int .i64 k ∧ Hid (xs.take k = ys.take k) ∧ Hid (∃ j, wr = w.drewN j)) (fun i _ => n - (intOf i).toNat)
    case atStart => exact ⟨0, Nat.zero_le _, rfl, rfl, 0, rfl⟩
    case round =>
      obtain ⟨k, hk, rfl, HE, HJ⟩ := hrel
      obtain ⟨j, hj⟩ := HJ.out
      by_cases hlt : k < n
      · obtain ⟨a, ha, _, hca⟩ := (HA.out.drewN j).2 (by omega)
        obtain ⟨b, hb, _, hcb⟩ := (HB.out.drewN j).2 (by omega)
        have h1 := hca k hlt
        have h2 := hcb k hlt
        rw [← hj] at h1 h2
        have HXT : Hid (xs.take (k + 1) = xs.take k ++ [xs.getD k 0]) := by
          show _ = _
          rw [List.take_succ_eq_append_getElem (by have := HA.out.1; omega)]
          simp [List.getD_eq_getElem?_getD, List.getElem?_eq_getElem (show k < xs.length by have := HA.out.1; omega)]
        have HYT : Hid (ys.take (k + 1) = ys.take k ++ [ys.getD k 0]) := by
          show _ = _
          rw [List.take_succ_eq_append_getElem (by have := HB.out.1; omega)]
          simp [List.getD_eq_getElem?_getD, List.getElem?_eq_getElem (show k < ys.length by have := HB.out.1; omega)]
        subst ha hb
        clear hca hcb
        have HX2 : Hid (xs.getD k 0 = xs.getD k 0) := rfl
        obtain ⟨x, hx⟩ : ∃ x, xs.getD k 0 = x := ⟨_, rfl⟩
        obtain ⟨y, hy⟩ : ∃ y, ys.getD k 0 = y := ⟨_, rfl⟩
        rw [hx] at h1 HXT
        rw [hy] at h2 HYT
        have HXk := Lib.hid hx
        have HYk := Lib.hid hy
        have HJ' := Lib.hid hj
        clear hx hy hj HX2 HJ
        obtain ⟨t, ht⟩ : ∃ t, (x != y) = t := ⟨_, rfl⟩
        have hkI : (k : Int) < (n : Int) := by omega
        have hk0 : (0 : Int) ≤ (k : Int) := by omega
        cases t
        · go_wp2
          go_quiet (fail)
          go_wp2
          go_roundw
          case rel =>
            have hxy : x = y := by simpa using ht
            refine ⟨k + 1, by omega, by go_num, ?_, ?_⟩
            · show _ = _
              rw [HXT.out, HYT.out, HE.out, hxy]
            · show ∃ _, _ = _
              rw [HJ'.out]; exact ⟨_, World.drewN_drewN _ _ _⟩
          case measure => simp [intOf]; omega
        · go_wp2
          go_quiet (fail)
          go_wp2
          go_ret
          have hxy : x ≠ y := by simpa using ht
          refine ⟨?_, ?_⟩
          · have : xs ≠ ys := by
              rintro e
              apply hxy
              rw [← HXk.out, ← HYk.out, e]
            simp [this]
          · rw [HJ'.out]; exact ⟨_, World.drewN_drewN _ _ _⟩
      · obtain rfl : k = n := by omega
        clear hj
        go_wp2
        go_ret
        refine ⟨?_, HJ.out⟩
        have e := HE.out
        rw [List.take_of_length_le (by have := HA.out.1; omega), List.take_of_length_le (by have := HB.out.1; omega)] at e
        simp [e]
  · have h1 : ((n : Int) != (m : Int)) = true := by simp; omega
    have h2 : ((n : Int) == (m : Int)) = false := by simp; omega
    have HX : Hid (xs ≠ ys) := by
      rintro rfl
      exact hnm (ha.1.symm.trans hb.1)
    clear ha hb
    go_enter Tryz.func12, Tryz.ntmps12
    go_wp2
    go_ret
    exact ⟨by simp [HX.out], 0, rfl⟩

end Go.Proofs.YtjjflbnopphciaaGreatDoor

namespace Go.Proofs.YtjjflbnopphciaaGreatDoor
open Go.RowKit

def imgRows : List (List Int) := [[1, 2, 3], [4, 5, 6], [7, 8, 9]]
def tskRows : List (List Int) := [[5, 1, 9], [4, 4, 0], [7, 2, 3]]

theorem rd_three {W : World} {b x0 x1 x2 : Nat} {r0 r1 r2 : List Int} (h : W.cell? ⟨b, 0, none⟩ = some (.slice (some ⟨x0, 0, none⟩) 3 3)) (h1 : W.cell? ⟨b, 1, none⟩ = some (.slice (some ⟨x1, 0, none⟩) 3 3)) (h2 : W.cell? ⟨b, 2, none⟩ = some (.slice (some ⟨x2, 0, none⟩) 3 3))
    (g0 : RdI W (some ⟨x0, 0, none⟩) 3 r0) (g1 : RdI W (some ⟨x1, 0, none⟩) 3 r1) (g2 : RdI W (some ⟨x2, 0, none⟩) 3 r2) : RdG W (some ⟨b, 0, none⟩) 3 [r0, r1, r2] :=
  ⟨rfl, fun _ => ⟨_, rfl, World.block_lt_of_cell? _ _ h, fun j hj => by
    rcases (by omega : j = 0 ∨ j = 1 ∨ j = 2) with rfl | rfl | rfl
    · exact ⟨_, _, _, by rw [addOff]; exact h, g0, by omega⟩
    · exact ⟨_, _, _, by rw [addOff]; exact h1, g1, by omega⟩
    · exact ⟨_, _, _, by rw [addOff]; exact h2, g2, by omega⟩⟩⟩
theorem lit3 (W : World) (b : Nat) (x y z : Int) (h : W.cell? ⟨b, 0, none⟩ = some (.int .i64 x)) (h' : W.cell? ⟨b, 1, none⟩ = some (.int .i64 y)) (h'' : W.cell? ⟨b, 2, none⟩ = some (.int .i64 z)) : RdI W (some ⟨b, 0, none⟩) 3 [x, y, z] :=
  ⟨rfl, fun _ => ⟨_, rfl, World.block_lt_of_cell? _ _ h, fun j hj => by
    rcases (by omega : j = 0 ∨ j = 1 ∨ j = 2) with rfl | rfl | rfl
    · rw [addOff]; exact h
    · rw [addOff]; exact h'
    · rw [addOff]; exact h''⟩⟩

theorem Image_any (w : World) : Calls Tryz.prog 32 #[] w fun e w' => (∃ B, e = .returned (.agg #[.slice (some ⟨B, 0, none⟩) 3 3]) ∧ RdG w' (some ⟨B, 0, none⟩) 3 imgRows) ∧ Below w.heap.size w w' := by
  go_enter Tryz.func32, Tryz.ntmps32
  go_wp2
  refine bodyPost_ret (v := .agg #[.slice (some ⟨w.heap.size + 1 + 1 + 1 + 1, 0, none⟩) 3 3]) (by simp [results, Tryz.results32, go_sem]) rfl ⟨⟨_, rfl, rd_three (x0 := w.heap.size + 1) (x1 := w.heap.size + 1 + 1) (x2 := w.heap.size + 1 + 1 + 1) (by simp [go_sem]) (by simp [go_sem]) (by simp [go_sem]) (lit3 _ _ _ _ _ (by simp [go_sem]) (by simp [go_sem]) (by simp [go_sem])) (lit3 _ _ _ _ _ (by simp [go_sem]) (by simp [go_sem]) (by simp [go_sem])) (lit3 _ _ _ _ _ (by simp [go_sem]) (by simp [go_sem]) (by simp [go_sem]))⟩, ?_⟩
  exact (((((Below.refl _ w).alloc (Nat.le_refl _) _).alloc (by simp) _).alloc (by simp; omega) _).alloc (by simp; omega) _).alloc (by simp; omega) _
theorem Task_any (w : World) : Calls Tryz.prog 33 #[] w fun e w' => (∃ B, e = .returned (.agg #[.slice (some ⟨B, 0, none⟩) 3 3, .int .i64 1]) ∧ RdG w' (some ⟨B, 0, none⟩) 3 tskRows) ∧ Below w.heap.size w w' := by
  go_enter Tryz.func33, Tryz.ntmps33
  go_wp2
  refine bodyPost_ret (v := .agg #[.slice (some ⟨w.heap.size + 1 + 1 + 1 + 1, 0, none⟩) 3 3, .int .i64 1]) (by simp [results, Tryz.results33, go_sem]) rfl ⟨⟨_, rfl, rd_three (x0 := w.heap.size + 1) (x1 := w.heap.size + 1 + 1) (x2 := w.heap.size + 1 + 1 + 1) (by simp [go_sem]) (by simp [go_sem]) (by simp [go_sem]) (lit3 _ _ _ _ _ (by simp [go_sem]) (by simp [go_sem]) (by simp [go_sem])) (lit3 _ _ _ _ _ (by simp [go_sem]) (by simp [go_sem]) (by simp [go_sem])) (lit3 _ _ _ _ _ (by simp [go_sem]) (by simp [go_sem]) (by simp [go_sem]))⟩, ?_⟩
  exact (((((Below.refl _ w).alloc (Nat.le_refl _) _).alloc (by simp) _).alloc (by simp; omega) _).alloc (by simp; omega) _).alloc (by simp; omega) _

theorem v_ring : ringE imgRows 1 1 1 = 0 ∧ ringX imgRows 1 1 1 = [6, 9, 8, 7, 4, 1, 2, 3] := by decide +kernel
theorem v_best : taskE tskRows 1 = 0 ∧ bestL tskRows 1 = ([1, 2, 1], 5) := by decide +kernel
theorem v_turn : turnE tskRows 1 (-1) = 0 ∧ turnL tskRows 1 (-1) = ([2, 2, 1], 12) := by decide +kernel
theorem v_bridge : brE [0, 9, 9, 9, 8] [(1, 3)] = 0 ∧ brL [0, 9, 9, 9, 8] [(1, 3)] = [0, 2, 4, 6, 8] := by decide +kernel
theorem v_mat : wallsE [(3, 8)] = 0 ∧ matL [(3, 8)] = [(11, 5)] := by decide +kernel

end Go.Proofs.YtjjflbnopphciaaGreatDoor

namespace Go.Proofs.YtjjflbnopphciaaGreatDoor
open Go.RowKit

theorem LaidSides.later {w w' : World} (h : LaidSides w) (hb : Below w.heap.size w w') : LaidSides w' :=
  ⟨Nat.lt_of_lt_of_le h.lt hb.size, fun j hj => by
    obtain ⟨a, b, c⟩ := h.row j hj
    exact ⟨(hb.cell (p := ⟨_, _, none⟩) h.lt).trans a, (hb.cell (p := ⟨_, _, none⟩) h.lt).trans b, (hb.cell (p := ⟨_, _, none⟩) h.lt).trans c⟩⟩

theorem ex_ring (B : Nat) (w : World) (hl : LaidSides w) (hg : RdG w (some ⟨B, 0, none⟩) 3 imgRows) :
    Calls Tryz.prog 31 #[.agg #[.slice (some ⟨B, 0, none⟩) 3 3], .agg #[.int .i64 1, .int .i64 1], .int .i64 1] w fun e w' => (∃ A c, e = .returned (.tuple #[.slice A 8 c, .int .i64 0]) ∧ RdI w' A 8 [6, 9, 8, 7, 4, 1, 2, 3]) ∧ Below w.heap.size w w' := by
  refine (RingOf_any _ 3 3 imgRows 1 1 1 w hl hg (by omega)).mono ?_
  rintro e w' ⟨⟨v, rfl, ho⟩, hb⟩
  rw [v_ring.1]
  rw [v_ring.2] at ho
  obtain ⟨A, c, rfl, _, hr⟩ := rd_of_own ho
  exact ⟨⟨A, c, rfl, hr⟩, hb⟩
theorem ex_best (B : Nat) (w : World) (hg : RdG w (some ⟨B, 0, none⟩) 3 tskRows) :
    Calls Tryz.prog 20 #[.agg #[.slice (some ⟨B, 0, none⟩) 3 3, .int .i64 1]] w fun e w' => (∃ A c, e = .returned (.tuple #[.slice A 3 c, .int .i64 5, .int .i64 0]) ∧ RdI w' A 3 [1, 2, 1]) ∧ Below w.heap.size w w' := by
  refine (BestPath_any _ 3 3 tskRows 1 w hg (by omega)).mono ?_
  rintro e w' ⟨⟨v, rfl, ho⟩, hb⟩
  rw [v_best.1, v_best.2]
  rw [v_best.2] at ho
  obtain ⟨A, c, rfl, _, hr⟩ := rd_of_own ho
  exact ⟨⟨A, c, rfl, hr⟩, hb⟩
theorem ex_turn (B : Nat) (w : World) (hg : RdG w (some ⟨B, 0, none⟩) 3 tskRows) :
    Calls Tryz.prog 34 #[.agg #[.slice (some ⟨B, 0, none⟩) 3 3, .int .i64 1], .int .i64 (-1)] w fun e w' => (∃ A c, e = .returned (.tuple #[.slice A 3 c, .int .i64 12, .int .i64 0]) ∧ RdI w' A 3 [2, 2, 1]) ∧ Below w.heap.size w w' := by
  refine (TurnPath_any _ 3 3 tskRows 1 (-1) w hg (by omega)).mono ?_
  rintro e w' ⟨⟨v, rfl, ho⟩, hb⟩
  rw [v_turn.1, v_turn.2]
  rw [v_turn.2] at ho
  obtain ⟨A, c, rfl, _, hr⟩ := rd_of_own ho
  exact ⟨⟨A, c, rfl, hr⟩, hb⟩
theorem ex_bridge (w : World) (o : Obj) :
    Calls Tryz.prog 28 #[.slice (some ⟨w.heap.size, 0, none⟩) 5 5, .slice (some ⟨w.heap.size + 1, 0, none⟩) 1 1] ((w.alloc (.cells #[.int .i64 0, .int .i64 9, .int .i64 9, .int .i64 9, .int .i64 8] 3)).alloc (.cells #[.int .i64 1, .int .i64 3] 51)) fun e w' => (∃ A c, e = .returned (.tuple #[.slice A 5 c, .int .i64 0]) ∧ RdI w' A 5 [0, 2, 4, 6, 8]) ∧ Below w.heap.size w w' := by
  refine (Bridged_any _ 5 5 (w.heap.size + 1) 1 1 [0, 9, 9, 9, 8] [(1, 3)] _ ?_ ?_ (by omega) (by omega)).mono ?_
  · have := rd_of_bk (w := (w.alloc (.cells #[.int .i64 0, .int .i64 9, .int .i64 9, .int .i64 9, .int .i64 8] 3)).alloc (.cells #[.int .i64 1, .int .i64 3] 51)) (g := w.heap.size) (xs := [0, 9, 9, 9, 8]) (n := 5) ((Bk.new w _ _).alloc _) rfl
    exact this
  · refine ⟨rfl, fun _ => by simp, fun j hj => ?_⟩
    obtain rfl : j = 0 := by omega
    exact ⟨by simp [go_sem], by simp [go_sem]⟩
  rintro e w' ⟨⟨v, rfl, ho⟩, hb⟩
  rw [v_bridge.1]
  rw [v_bridge.2] at ho
  obtain ⟨A, c, rfl, _, hr⟩ := rd_of_own ho
  exact ⟨⟨A, c, rfl, hr⟩, (((Below.refl _ w).alloc (Nat.le_refl _) _).alloc (by simp) _).trans (hb.mono (by simp; omega))⟩
theorem ex_mat (w : World) :
    Calls Tryz.prog 35 #[.slice (some ⟨w.heap.size, 0, none⟩) 1 1] (w.alloc (.cells #[.int .i64 3, .int .i64 8] 83)) fun e w' => (∃ g c, e = .returned (.tuple #[.slice (some ⟨g, 0, none⟩) 1 c, .int .i64 0]) ∧ w'.cell? ⟨g, 0, none⟩ = some (.int .i64 11) ∧ w'.cell? ⟨g, 1, none⟩ = some (.int .i64 5)) ∧ Below w.heap.size w w' := by
  refine (MatrixOf_any w.heap.size 1 1 [(3, 8)] _ ?_ (by omega)).mono ?_
  · refine ⟨rfl, fun _ => by simp, fun j hj => ?_⟩
    obtain rfl : j = 0 := by omega
    exact ⟨by simp [go_sem], by simp [go_sem]⟩
  rintro e w' ⟨⟨v, rfl, ho⟩, hb⟩
  rw [v_mat.1]
  rw [v_mat.2] at ho
  obtain ⟨g, c, rfl⟩ := ownsRow_succ (k := 0) ho
  refine ⟨⟨g, c, rfl, ?_, ?_⟩, ((Below.refl _ w).alloc (Nat.le_refl _) _).trans (hb.mono (by simp))⟩
  · have := ho.cells (g := g) rfl 0 (.int .i64 11) rfl
    rwa [addOff] at this
  · have := ho.cells (g := g) rfl 1 (.int .i64 5) rfl
    rwa [addOff] at this

set_option maxRecDepth 100000 in
set_option maxHeartbeats 2000000 in
theorem awake_any (w : World) (hl : LaidSides w) :
    Calls Tryz.prog 5 #[] w fun e w' => e = .returned (.bool true) ∧ Below w.heap.size w w' := by
  have HL := Lib.hid hl
  clear hl
  go_enter Tryz.func5, Tryz.ntmps5
  go_wp2_with fail
  refine (Image_any _).mono ?_
  rintro e w1 ⟨⟨B1, rfl, hg1⟩, hb1⟩
  have l1 := Lib.hid hb1
  have C1 := Lib.hid (ex_ring B1 w1 (HL.out.later hb1) hg1)
  clear hb1 hg1
  go_wp2_with fail
  refine C1.out.mono ?_
  rintro e w2 ⟨⟨A2, c2, rfl, hr2⟩, hb2⟩
  have l2 := Lib.hid (l1.out.trans (hb2.mono l1.out.size))
  have R2 := Lib.hid hr2
  clear hr2 hb2 l1 C1
  go_wp2_with fail
  refine (Task_any _).mono ?_
  rintro e w3 ⟨⟨B3, rfl, hg3⟩, hb3⟩
  have l3 := Lib.hid (l2.out.trans (hb3.mono l2.out.size))
  have R3 := Lib.hid (R2.out.below hb3)
  have C3 := Lib.hid (ex_best B3 w3 hg3)
  clear hg3 hb3 l2 R2
  go_wp2_with fail
  refine C3.out.mono ?_
  rintro e w4 ⟨⟨A4, c4, rfl, hr4⟩, hb4⟩
  have l4 := Lib.hid (l3.out.trans (hb4.mono l3.out.size))
  have R4 := Lib.hid (R3.out.below hb4)
  have S4 := Lib.hid hr4
  clear hr4 hb4 l3 R3 C3
  go_wp2_with fail
  refine (Task_any _).mono ?_
  rintro e w5 ⟨⟨B5, rfl, hg5⟩, hb5⟩
  have l5 := Lib.hid (l4.out.trans (hb5.mono l4.out.size))
  have R5 := Lib.hid (R4.out.below hb5)
  have S5 := Lib.hid (S4.out.below hb5)
  have C5 := Lib.hid (ex_turn B5 w5 hg5)
  clear hg5 hb5 l4 R4 S4
  go_wp2_with fail
  refine C5.out.mono ?_
  rintro e w6 ⟨⟨A6, c6, rfl, hr6⟩, hb6⟩
  have l6 := Lib.hid (l5.out.trans (hb6.mono l5.out.size))
  have R6 := Lib.hid (R5.out.below hb6)
  have S6 := Lib.hid (S5.out.below hb6)
  have T6 := Lib.hid hr6
  clear hr6 hb6 l5 R5 S5 C5
  have C6 := Lib.hid (ex_bridge w6 default)
  go_wp2_with fail
  refine C6.out.mono ?_
  rintro e w7 ⟨⟨A7, c7, rfl, hr7⟩, hb7⟩
  have l7 := Lib.hid (l6.out.trans (hb7.mono l6.out.size))
  have R7 := Lib.hid (R6.out.below hb7)
  have S7 := Lib.hid (S6.out.below hb7)
  have T7 := Lib.hid (T6.out.below hb7)
  have U7 := Lib.hid hr7
  clear hr7 hb7 l6 R6 S6 T6 C6
  have C7 := Lib.hid (ex_mat w7)
  go_wp2_with fail
  refine C7.out.mono ?_
  rintro e w8 ⟨⟨g8, c8, rfl, k0, k1⟩, hb8⟩
  have l8 := Lib.hid (l7.out.trans (hb8.mono l7.out.size))
  have R8 := Lib.hid (R7.out.below hb8)
  have S8 := Lib.hid (S7.out.below hb8)
  have T8 := Lib.hid (T7.out.below hb8)
  have U8 := Lib.hid (U7.out.below hb8)
  have hz8 : g8 < w8.heap.size := World.block_lt_of_cell? _ _ k0
  have K0 := Lib.hid k0
  have K1 := Lib.hid k1
  clear k0 k1 hb8 l7 R7 S7 T7 U7 C7
  have lb9 : Below w8.heap.size w8 (w8.alloc (.cells #[.int .i64 6, .int .i64 9, .int .i64 8, .int .i64 7, .int .i64 4, .int .i64 1, .int .i64 2, .int .i64 3] 3)) := (Below.refl _ _).alloc (Nat.le_refl _) _
  have lit9 : RdI (w8.alloc (.cells #[.int .i64 6, .int .i64 9, .int .i64 8, .int .i64 7, .int .i64 4, .int .i64 1, .int .i64 2, .int .i64 3] 3)) (some ⟨w8.heap.size, 0, none⟩) 8 [6, 9, 8, 7, 4, 1, 2, 3] := rd_of_bk (xs := [6, 9, 8, 7, 4, 1, 2, 3]) (show Bk (w8.alloc (.cells #[.int .i64 6, .int .i64 9, .int .i64 8, .int .i64 7, .int .i64 4, .int .i64 1, .int .i64 2, .int .i64 3] 3)) w8.heap.size 3 (iArr [6, 9, 8, 7, 4, 1, 2, 3]) from Bk.new _ _ _) rfl
  have CI9 := Lib.hid (ints_any _ _ 8 8 c2 8 [6, 9, 8, 7, 4, 1, 2, 3] [6, 9, 8, 7, 4, 1, 2, 3] (w8.alloc (.cells #[.int .i64 6, .int .i64 9, .int .i64 8, .int .i64 7, .int .i64 4, .int .i64 1, .int .i64 2, .int .i64 3] 3)) (R8.out.below lb9) lit9 (by omega) (by omega))
  have LB9 := Lib.hid lb9
  clear lb9 lit9
  go_wp2_with fail
  refine CI9.out.mono ?_
  rintro e w' ⟨rfl, kk9, rfl⟩
  have hB9 : Below w8.heap.size w8 ((w8.alloc (.cells #[.int .i64 6, .int .i64 9, .int .i64 8, .int .i64 7, .int .i64 4, .int .i64 1, .int .i64 2, .int .i64 3] 3)).drewN kk9) := belowDrewN LB9.out kk9
  obtain ⟨w9, hw9⟩ : ∃ W, (w8.alloc (.cells #[.int .i64 6, .int .i64 9, .int .i64 8, .int .i64 7, .int .i64 4, .int .i64 1, .int .i64 2, .int .i64 3] 3)).drewN kk9 = W := ⟨_, rfl⟩
  rw [hw9] at hB9 ⊢
  have l9 := Lib.hid (l8.out.trans (hB9.mono l8.out.size))
  have S9 := Lib.hid (S8.out.below hB9)
  have T9 := Lib.hid (T8.out.below hB9)
  have U9 := Lib.hid (U8.out.below hB9)
  have K09 := Lib.hid ((hB9.cell (p := ⟨g8, 0, none⟩) (World.block_lt_of_cell? _ _ K0.out)).trans K0.out)
  have K19 := Lib.hid ((hB9.cell (p := ⟨g8, 1, none⟩) (World.block_lt_of_cell? _ _ K1.out)).trans K1.out)
  clear hw9 hB9 CI9 LB9 R8 S8 T8 U8 K0 K1 l8
  have lb10 : Below w9.heap.size w9 (w9.alloc (.cells #[.int .i64 1, .int .i64 2, .int .i64 1] 3)) := (Below.refl _ _).alloc (Nat.le_refl _) _
  have lit10 : RdI (w9.alloc (.cells #[.int .i64 1, .int .i64 2, .int .i64 1] 3)) (some ⟨w9.heap.size, 0, none⟩) 3 [1, 2, 1] := rd_of_bk (xs := [1, 2, 1]) (show Bk (w9.alloc (.cells #[.int .i64 1, .int .i64 2, .int .i64 1] 3)) w9.heap.size 3 (iArr [1, 2, 1]) from Bk.new _ _ _) rfl
  have CI10 := Lib.hid (ints_any _ _ 3 3 c4 3 [1, 2, 1] [1, 2, 1] (w9.alloc (.cells #[.int .i64 1, .int .i64 2, .int .i64 1] 3)) (S9.out.below lb10) lit10 (by omega) (by omega))
  have LB10 := Lib.hid lb10
  clear lb10 lit10
  go_wp2_with fail
  refine CI10.out.mono ?_
  rintro e w' ⟨rfl, kk10, rfl⟩
  have hB10 : Below w9.heap.size w9 ((w9.alloc (.cells #[.int .i64 1, .int .i64 2, .int .i64 1] 3)).drewN kk10) := belowDrewN LB10.out kk10
  obtain ⟨w10, hw10⟩ : ∃ W, (w9.alloc (.cells #[.int .i64 1, .int .i64 2, .int .i64 1] 3)).drewN kk10 = W := ⟨_, rfl⟩
  rw [hw10] at hB10 ⊢
  have l10 := Lib.hid (l9.out.trans (hB10.mono l9.out.size))
  have T10 := Lib.hid (T9.out.below hB10)
  have U10 := Lib.hid (U9.out.below hB10)
  have K010 := Lib.hid ((hB10.cell (p := ⟨g8, 0, none⟩) (World.block_lt_of_cell? _ _ K09.out)).trans K09.out)
  have K110 := Lib.hid ((hB10.cell (p := ⟨g8, 1, none⟩) (World.block_lt_of_cell? _ _ K19.out)).trans K19.out)
  clear hw10 hB10 CI10 LB10 S9 T9 U9 K09 K19 l9
  have lb11 : Below w10.heap.size w10 (w10.alloc (.cells #[.int .i64 2, .int .i64 2, .int .i64 1] 3)) := (Below.refl _ _).alloc (Nat.le_refl _) _
  have lit11 : RdI (w10.alloc (.cells #[.int .i64 2, .int .i64 2, .int .i64 1] 3)) (some ⟨w10.heap.size, 0, none⟩) 3 [2, 2, 1] := rd_of_bk (xs := [2, 2, 1]) (show Bk (w10.alloc (.cells #[.int .i64 2, .int .i64 2, .int .i64 1] 3)) w10.heap.size 3 (iArr [2, 2, 1]) from Bk.new _ _ _) rfl
  have CI11 := Lib.hid (ints_any _ _ 3 3 c6 3 [2, 2, 1] [2, 2, 1] (w10.alloc (.cells #[.int .i64 2, .int .i64 2, .int .i64 1] 3)) (T10.out.below lb11) lit11 (by omega) (by omega))
  have LB11 := Lib.hid lb11
  clear lb11 lit11
  go_wp2_with fail
  refine CI11.out.mono ?_
  rintro e w' ⟨rfl, kk11, rfl⟩
  have hB11 : Below w10.heap.size w10 ((w10.alloc (.cells #[.int .i64 2, .int .i64 2, .int .i64 1] 3)).drewN kk11) := belowDrewN LB11.out kk11
  obtain ⟨w11, hw11⟩ : ∃ W, (w10.alloc (.cells #[.int .i64 2, .int .i64 2, .int .i64 1] 3)).drewN kk11 = W := ⟨_, rfl⟩
  rw [hw11] at hB11 ⊢
  have l11 := Lib.hid (l10.out.trans (hB11.mono l10.out.size))
  have U11 := Lib.hid (U10.out.below hB11)
  have K011 := Lib.hid ((hB11.cell (p := ⟨g8, 0, none⟩) (World.block_lt_of_cell? _ _ K010.out)).trans K010.out)
  have K111 := Lib.hid ((hB11.cell (p := ⟨g8, 1, none⟩) (World.block_lt_of_cell? _ _ K110.out)).trans K110.out)
  clear hw11 hB11 CI11 LB11 T10 U10 K010 K110 l10
  have lb12 : Below w11.heap.size w11 (w11.alloc (.cells #[.int .i64 0, .int .i64 2, .int .i64 4, .int .i64 6, .int .i64 8] 3)) := (Below.refl _ _).alloc (Nat.le_refl _) _
  have lit12 : RdI (w11.alloc (.cells #[.int .i64 0, .int .i64 2, .int .i64 4, .int .i64 6, .int .i64 8] 3)) (some ⟨w11.heap.size, 0, none⟩) 5 [0, 2, 4, 6, 8] := rd_of_bk (xs := [0, 2, 4, 6, 8]) (show Bk (w11.alloc (.cells #[.int .i64 0, .int .i64 2, .int .i64 4, .int .i64 6, .int .i64 8] 3)) w11.heap.size 3 (iArr [0, 2, 4, 6, 8]) from Bk.new _ _ _) rfl
  have CI12 := Lib.hid (ints_any _ _ 5 5 c7 5 [0, 2, 4, 6, 8] [0, 2, 4, 6, 8] (w11.alloc (.cells #[.int .i64 0, .int .i64 2, .int .i64 4, .int .i64 6, .int .i64 8] 3)) (U11.out.below lb12) lit12 (by omega) (by omega))
  have LB12 := Lib.hid lb12
  clear lb12 lit12
  go_wp2_with fail
  refine CI12.out.mono ?_
  rintro e w' ⟨rfl, kk12, rfl⟩
  have hB12 : Below w11.heap.size w11 ((w11.alloc (.cells #[.int .i64 0, .int .i64 2, .int .i64 4, .int .i64 6, .int .i64 8] 3)).drewN kk12) := belowDrewN LB12.out kk12
  obtain ⟨w12, hw12⟩ : ∃ W, (w11.alloc (.cells #[.int .i64 0, .int .i64 2, .int .i64 4, .int .i64 6, .int .i64 8] 3)).drewN kk12 = W := ⟨_, rfl⟩
  rw [hw12] at hB12 ⊢
  have l12 := Lib.hid (l11.out.trans (hB12.mono l11.out.size))
  have K012 := Lib.hid ((hB12.cell (p := ⟨g8, 0, none⟩) (World.block_lt_of_cell? _ _ K011.out)).trans K011.out)
  have K112 := Lib.hid ((hB12.cell (p := ⟨g8, 1, none⟩) (World.block_lt_of_cell? _ _ K111.out)).trans K111.out)
  clear hw12 hB12 CI12 LB12 U11 K011 K111 l11
  have k0 := K012.out
  have k1 := K112.out
  go_wp2
  go_ret
  exact ⟨rfl, l12.out⟩

end Go.Proofs.YtjjflbnopphciaaGreatDoor

