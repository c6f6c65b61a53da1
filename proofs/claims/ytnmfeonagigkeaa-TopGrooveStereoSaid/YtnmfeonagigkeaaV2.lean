import Derived.Test.YtnmfeonagigkeaaV1
import Derived.Test.YtnmfeonagigkeaaP3
namespace Go.Proofs.Ytnmfeonagigkeaa
open Go.RowKit


def velE (xs : List Int) : Int := turnErr xs
def velX (xs : List Int) : List Int := if turnErr xs = 0 then velL xs else []
theorem padV_set (xs : List Int) (k m : Nat) (h : k < xs.length - 1) : True := trivial

set_option maxRecDepth 100000 in
set_option maxHeartbeats 2000000 in
theorem VelocitiesOf_any (A : Option Addr) (n c : Nat) (xs : List Int) (w : World) (hr : RdI w A n xs) (hn : n ≤ 1000000) :
    Calls Try.prog 10 #[.slice A n c] w (OwnRes w (turnErr xs) (velX xs)) := by
  have C := Lib.hid (checkTurn_any A n c xs w hr (by omega))
  by_cases hE : turnErr xs = 0
  · have hX : velX xs = velL xs := by unfold velX; rw [if_pos hE]
    have hp : posE xs = 0 ∧ xs.length ≠ 0 := by
      unfold turnErr at hE
      by_cases h0 : posE xs = 0
      · rw [if_pos h0] at hE
        refine ⟨h0, fun h1 => ?_⟩
        rw [if_pos h1] at hE; omega
      · rw [if_neg h0] at hE; exact absurd hE h0
    obtain ⟨hlen, hsm⟩ := pos_ok hp.1
    rw [hX, hE]
    rw [hE] at C
    have hl := hr.1
    obtain ⟨ad, rfl, hadb, hc⟩ := hr.2 (by omega)
    have HC := Lib.hid hc
    have HSM := Lib.hid hsm
    have HLN := Lib.hid hl
    have hmi := make_ints (n - 1) (by omega)
    obtain ⟨m, rfl⟩ : ∃ m, n = m + 1 := ⟨n - 1, by omega⟩
    rw [Nat.add_sub_cancel] at hmi
    have hm1 : IntKind.i64.wrap (m : Int) = (m : Int) := IntWalk.i64_in _ (by omega)
    have hm2 : IntKind.i64.wrap (((m + 1 : Nat) : Int) - 1) = (m : Int) := by rw [show ((m + 1 : Nat) : Int) - 1 = (m : Int) by omega]; exact hm1
    have hvl : velL xs = velTo xs m := by unfold velL velTo; rw [hl, Nat.add_sub_cancel]
    rw [hvl]
    clear hE hX hp hr hc hsm hl hvl hlen
    go_enter Try.func10, Try.ntmps10
    go_wp2_with (go_at_call 22; refine C.out.mono ?_; rintro e w' ⟨rfl, rfl⟩)
    go_loopw [18] (fun i wr => ∃ k : Nat, k ≤ m ∧ i = .int .i64 k ∧ Hid (Bk wr w.heap.size 3 (iArr (padR (velTo xs m) k m)) ∧ Below w.heap.size w wr)) (fun i _ => m - (intOf i).toNat)
    case atStart => exact ⟨0, Nat.zero_le _, rfl, by rw [padR_zero]; exact Bk.new w _ _, (Below.refl _ w).alloc (Nat.le_refl _) _⟩
    case round =>
      obtain ⟨k, hk, rfl, HI⟩ := hrel
      by_cases hlt : k < m
      · have hkI : (k : Int) < (m : Int) := by omega
        have h1 := (HI.out.2.cell (p := ad.add k) (by rw [addBlock]; exact hadb)).trans (HC.out k (by omega))
        have h2 := (HI.out.2.cell (p := ad.add (k + 1)) (by rw [addBlock]; exact hadb)).trans (HC.out (k + 1) (by omega))
        have hx := HSM.out.at_ k
        have hy := HSM.out.at_ (k + 1)
        have hset := padR_set (velTo xs m) k m
        have hat : (velTo xs m).getD k 0 = xs.getD (k + 1) 0 - xs.getD k 0 := by simp [velTo, List.getD_eq_getElem?_getD, hlt]
        rw [hat] at hset
        obtain ⟨x, hxe⟩ : ∃ x, xs.getD k 0 = x := ⟨_, rfl⟩
        obtain ⟨y, hye⟩ : ∃ y, xs.getD (k + 1) 0 = y := ⟨_, rfl⟩
        rw [hxe] at h1 hx hset
        rw [hye] at h2 hy hset
        have HSET := Lib.hid hset
        have hg : wr.cell? ⟨w.heap.size, k, none⟩ = some (.int .i64 ((padR (velTo xs m) k m).getD k 0)) := by rw [HI.out.1.cell]; exact iArr_at _ _ (by rw [padR_length]; exact hlt)
        have hf : wr.frozen? ⟨w.heap.size, k, none⟩ = false := HI.out.1.frozen k
        obtain ⟨o, ho⟩ : ∃ o, (padR (velTo xs m) k m).getD k 0 = o := ⟨_, rfl⟩
        rw [ho] at hg
        obtain ⟨k1, hk1⟩ : ∃ k1, k1 = k + 1 := ⟨_, rfl⟩
        rw [← hk1] at h2
        have hne : (ad.add k1).block ≠ w.heap.size := by rw [addBlock]; omega
        have hne2 : (ad.add k).block ≠ w.heap.size := by rw [addBlock]; omega
        have HS0 : Hid ((fun w' : World => w'.cell? (ad.add k1) = some (.int .i64 y) ∧ w'.cell? (ad.add k) = some (.int .i64 x)) wr.drew) := ⟨h2, h1⟩
        have HS1 : Hid ((fun w' : World => w'.cell? (ad.add k1) = some (.int .i64 y) ∧ w'.cell? (ad.add k) = some (.int .i64 x)) ((wr.setCell ⟨w.heap.size, k, none⟩ (.int .i64 (y - x))).drew)) := by
          refine ⟨?_, ?_⟩
          · show World.cell? (wr.setCell _ _) _ = _
            rw [World.cell?_setCell_far _ _ _ _ (fun e => hne e.symm)]; exact h2
          · show World.cell? (wr.setCell _ _) _ = _
            rw [World.cell?_setCell_far _ _ _ _ (fun e => hne2 e.symm)]; exact h1
        have hz2 : IntKind.i64.wrap ((k : Int) + 1) = (k1 : Int) := by rw [show (k : Int) + 1 = (k1 : Int) by omega]; exact IntWalk.i64_in _ (by omega)
        have hz3 : (0 : Int) ≤ (k1 : Int) := by omega
        have hz4 : True := trivial
        have hz5 : (k1 : Int) < (m : Int) + 1 := by omega
        have hz6 : (k : Int) < (m : Int) + 1 := by omega
        have hz7 : IntKind.i64.wrap (y - x) = y - x := IntWalk.i64_in _ (by omega)
        have HF : Hid (Bk ((wr.setCell ⟨w.heap.size, k, none⟩ (.int .i64 (y - x))).drew) w.heap.size 3 (iArr (padR (velTo xs m) (k + 1) m)) ∧ Below w.heap.size w ((wr.setCell ⟨w.heap.size, k, none⟩ (.int .i64 (y - x))).drew)) := by
          refine ⟨?_, (HI.out.2.setCell (p := ⟨w.heap.size, k, none⟩) (Nat.le_refl _) _).drew⟩
          have := (HI.out.1.set_ k (.int .i64 (y - x))).drew
          rw [iArr_set, HSET.out] at this
          exact this
        clear hxe hye ho hset hat h1 h2 hne hne2 hk1
        go_wp2_with fail
        refine wp_region_held_drew (S := (fun w' : World => w'.cell? (ad.add k1) = some (.int .i64 y) ∧ w'.cell? (ad.add k) = some (.int .i64 x))) (by kernel_rfl) ?_ ?_
        · first | exact HS0.out | exact HS1.out
        intro hHeld
        refine wpAnyH_take (i := 0) (v := ?_) rfl (by kernel_rfl) (by kernel_rfl) (by kernel_rfl) (fun _ _ _ h => h) (Or.inl ⟨by rfl, ?_⟩) (by assumption) ?_
        rotate_left
        · intro w hSw; (try dsimp only at hSw); go_simp; (try (with_reducible rfl))
        try simp only [List.getElem_toArray, List.getElem_cons_succ, List.getElem_cons_zero, Act.put, List.setIfInBounds_toArray, List.set_cons_zero, List.set_cons_succ]
        refine wpAnyH_take (i := 1) (v := ?_) rfl (by kernel_rfl) (by kernel_rfl) (by kernel_rfl) (fun _ _ _ h => h) (Or.inl ⟨by rfl, ?_⟩) (by assumption) ?_
        rotate_left
        · intro w hSw; (try dsimp only at hSw); go_simp; (try (with_reducible rfl))
        try simp only [List.getElem_toArray, List.getElem_cons_succ, List.getElem_cons_zero, Act.put, List.setIfInBounds_toArray, List.set_cons_zero, List.set_cons_succ]
        refine wpAnyH_take (i := 2) (v := ?_) rfl (by kernel_rfl) (by kernel_rfl) (by kernel_rfl) (fun _ _ _ h => h) (Or.inl ⟨by rfl, ?_⟩) (by assumption) ?_
        rotate_left
        · intro w hSw; (try dsimp only at hSw); go_simp; (try (with_reducible rfl))
        try simp only [List.getElem_toArray, List.getElem_cons_succ, List.getElem_cons_zero, Act.put, List.setIfInBounds_toArray, List.set_cons_zero, List.set_cons_succ]
        refine wpAnyH_take (i := 3) (v := ?_) rfl (by kernel_rfl) (by kernel_rfl) (by kernel_rfl) (fun _ _ _ h => h) (Or.inl ⟨by rfl, ?_⟩) (by assumption) ?_
        rotate_left
        · intro w hSw; (try dsimp only at hSw); go_simp; (try (with_reducible rfl))
        try simp only [List.getElem_toArray, List.getElem_cons_succ, List.getElem_cons_zero, Act.put, List.setIfInBounds_toArray, List.set_cons_zero, List.set_cons_succ]
        refine wpAnyH_take (i := 4) (v := ?_) rfl (by kernel_rfl) (by kernel_rfl) (by kernel_rfl) (fun _ _ _ h => h) (Or.inl ⟨by rfl, ?_⟩) (by assumption) ?_
        rotate_left
        · intro w hSw; (try dsimp only at hSw); go_simp; (try (with_reducible rfl))
        try simp only [List.getElem_toArray, List.getElem_cons_succ, List.getElem_cons_zero, Act.put, List.setIfInBounds_toArray, List.set_cons_zero, List.set_cons_succ]
        refine wpAnyH_take (i := 5) (v := ?_) rfl (by kernel_rfl) (by kernel_rfl) (by kernel_rfl) (fun _ _ _ h => h) (Or.inl ⟨by rfl, ?_⟩) (by assumption) ?_
        rotate_left
        · intro w hSw; (try dsimp only at hSw); go_simp; (try (with_reducible rfl))
        try simp only [List.getElem_toArray, List.getElem_cons_succ, List.getElem_cons_zero, Act.put, List.setIfInBounds_toArray, List.set_cons_zero, List.set_cons_succ]
        refine wpAnyH_take (i := 6) (v := ?_) rfl (by kernel_rfl) (by kernel_rfl) (by kernel_rfl) (fun _ _ _ h => h) (Or.inl ⟨by rfl, ?_⟩) (by assumption) ?_
        rotate_left
        · intro w hSw; (try dsimp only at hSw); go_simp; (try (with_reducible rfl))
        try simp only [List.getElem_toArray, List.getElem_cons_succ, List.getElem_cons_zero, Act.put, List.setIfInBounds_toArray, List.set_cons_zero, List.set_cons_succ]
        refine wpAnyH_take (i := 7) (v := ?_) rfl (by kernel_rfl) (by kernel_rfl) (by kernel_rfl) (fun _ _ _ h => h) (Or.inl ⟨by rfl, ?_⟩) (by assumption) ?_
        rotate_left
        · intro w hSw; (try dsimp only at hSw); go_simp; (try (with_reducible rfl))
        try simp only [List.getElem_toArray, List.getElem_cons_succ, List.getElem_cons_zero, Act.put, List.setIfInBounds_toArray, List.set_cons_zero, List.set_cons_succ]
        refine wpAnyH_take (i := 8) (v := ?_) rfl (by kernel_rfl) (by kernel_rfl) (by kernel_rfl) (fun _ _ _ h => h) (Or.inl ⟨by rfl, ?_⟩) (by assumption) ?_
        rotate_left
        · intro w hSw; (try dsimp only at hSw); go_simp; (try (with_reducible rfl))
        try simp only [List.getElem_toArray, List.getElem_cons_succ, List.getElem_cons_zero, Act.put, List.setIfInBounds_toArray, List.set_cons_zero, List.set_cons_succ]
        refine wpAnyH_take (i := 9) (v := ?_) rfl (by kernel_rfl) (by kernel_rfl) (by kernel_rfl) (fun _ _ _ h => h) (Or.inl ⟨by rfl, ?_⟩) (by assumption) ?_
        rotate_left
        · intro w hSw; (try dsimp only at hSw); go_simp; (try (with_reducible rfl))
        try simp only [List.getElem_toArray, List.getElem_cons_succ, List.getElem_cons_zero, Act.put, List.setIfInBounds_toArray, List.set_cons_zero, List.set_cons_succ]
        refine wpAnyH_take (i := 10) (v := ?_) rfl (by kernel_rfl) (by kernel_rfl) (by kernel_rfl) (fun _ _ _ h => h) (Or.inl ⟨by rfl, ?_⟩) (by assumption) ?_
        rotate_left
        · intro w hSw; (try dsimp only at hSw); go_simp; (try (with_reducible rfl))
        try simp only [List.getElem_toArray, List.getElem_cons_succ, List.getElem_cons_zero, Act.put, List.setIfInBounds_toArray, List.set_cons_zero, List.set_cons_succ]
        refine wpAnyH_take (i := 11) (v := ?_) rfl (by kernel_rfl) (by kernel_rfl) (by kernel_rfl) (fun _ _ _ h => h) (Or.inl ⟨by rfl, ?_⟩) (by assumption) ?_
        rotate_left
        · intro w hSw; (try dsimp only at hSw); go_simp; (try (with_reducible rfl))
        try simp only [List.getElem_toArray, List.getElem_cons_succ, List.getElem_cons_zero, Act.put, List.setIfInBounds_toArray, List.set_cons_zero, List.set_cons_succ]
        refine wpAnyH_take (i := 12) (v := ?_) rfl (by kernel_rfl) (by kernel_rfl) (by kernel_rfl) (fun _ _ _ h => h) (Or.inl ⟨by rfl, ?_⟩) (by assumption) ?_
        rotate_left
        · intro w hSw; (try dsimp only at hSw); go_simp; (try (with_reducible rfl))
        try simp only [List.getElem_toArray, List.getElem_cons_succ, List.getElem_cons_zero, Act.put, List.setIfInBounds_toArray, List.set_cons_zero, List.set_cons_succ]
        refine wpAnyH_ready (rs := [13]) (by kernel_rfl) (by simp) ?_
        refine AllReadyH.cons rfl (fun K hK => ?_) AllReadyH.nil
        go_simp
        refine hK.out _ _ ?_ (fun hHeld => ?_)
        · clear hK K; first | exact HS0.out | exact HS1.out
        clear hK K
        try simp only [List.getElem_toArray, List.getElem_cons_succ, List.getElem_cons_zero, Act.put, List.setIfInBounds_toArray, List.set_cons_zero, List.set_cons_succ]
        refine wpAnyH_done (by kernel_rfl) ?_ _
        clear hHeld HS0 HS1 hz2 hz3 hz4 hz5 hz6 hz7 hg hf
        go_wp2
        go_roundw
        case rel => exact ⟨k + 1, by omega, by go_num, HF.out⟩
        case measure => simp [intOf]; omega
      · obtain rfl : k = m := by omega
        go_wp2
        go_ret2
        refine ⟨⟨_, rfl, ?_⟩, HI.out.2⟩
        have h := HI.out.1
        rw [padR_all _ _ (velTo_length _ _)] at h
        rw [velTo_length]
        exact own_of_bk k h (velTo_length _ _) (Nat.le_refl _) (by omega)
  · have hX : velX xs = [] := by unfold velX; rw [if_neg hE]
    rw [hX]
    obtain ⟨E, hEe⟩ : ∃ E, turnErr xs = E := ⟨_, rfl⟩
    rw [hEe] at hE C ⊢
    have h1 : (E != 0) = true := by simpa using hE
    clear hE hEe hX hr
    go_enter Try.func10, Try.ntmps10
    go_wp2_with (go_at_call 22; refine C.out.mono ?_; rintro e w' ⟨rfl, rfl⟩)
    go_ret2
    exact OwnRes.none_ (Below.refl _ _)

end Go.Proofs.Ytnmfeonagigkeaa
