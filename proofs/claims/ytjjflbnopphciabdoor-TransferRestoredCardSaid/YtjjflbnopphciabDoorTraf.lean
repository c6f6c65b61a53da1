import Derived.Test.YtjjflbnopphciabDoorTrac
import Derived.Test.YtjjflbnopphciabDoorTrad
namespace Go.Proofs.YtjjflbnopphciabDoor
open Go.RowKit

theorem wrapS (z : Int) (h0 : -9223372036854775808 ≤ z) (h1 : z ≤ 9223372036854775807) : IntKind.i64.wrap z = z := by
  rw [IntKind.wrap_i64]; omega
theorem inB_asc (x : Int) (n : Nat) (hn : n ≤ 1000000) : inB x 0 (IntKind.i64.wrap ((n : Int) - 1)) = !(decide (x < 0) || decide ((n : Int) ≤ x)) := by
  have h : IntKind.i64.wrap ((n : Int) - 1) = (n : Int) - 1 := by
    apply wrapS <;> omega
  rw [h]
  unfold inB
  by_cases h1 : x < 0
  · simp [h1]; omega
  · by_cases h2 : (n : Int) ≤ x
    · simp [h1, h2]; omega
    · simp [h1, h2]; omega
/-- What stood before index k. -/
def prevL (xs : List Int) (k : Nat) : Int := if k = 0 then -1 else xs.getD (k - 1) 0
set_option maxRecDepth 100000 in
set_option maxHeartbeats 4000000 in
theorem lostErr_any (A : Option Addr) (n c : Nat) (xs : List Int) (m : Nat) (w : World) (hr : RdI w A n xs) (hn : n ≤ 1000000) (hm : m ≤ 1000000) :
    Calls Tryd.prog 36 #[.slice A n c, .int .i64 m] w fun e w' => e = .returned (.int .i64 (lostE m (-1) xs)) ∧ Below w.heap.size w w' := by
  have HR := Lib.hid hr
  clear hr
  go_enter Tryd.func36, Tryd.ntmps36
  go_wp2
  go_loopw [5] (fun i wr => ∃ k : Nat, k ≤ n ∧ i = .int .i64 k ∧ Hid (lostE m (-1) xs = lostE m (prevL xs k) (xs.drop k)) ∧ Hid (Below w.heap.size w wr)) (fun i _ => n - (intOf i).toNat)
  case atStart => exact ⟨0, Nat.zero_le _, rfl, rfl, Below.refl _ _⟩
  case round =>
    obtain ⟨k, hk, rfl, HE, HB⟩ := hrel
    by_cases hlt : k < n
    · obtain ⟨ad, ha, _, hc⟩ := (HR.out.below HB.out).2 (by omega)
      have hck := hc k hlt
      have hs := lostE_drop m (prevL xs k) xs k (by rw [HR.out.1]; exact hlt)
      have hkI : (k : Int) < (n : Int) := by omega
      have hpn : prevL xs (k + 1) = xs.getD k 0 := by unfold prevL; rw [if_neg (by omega)]; rfl
      have hpc : 0 < k → wr.cell? (ad.add (k - 1)) = some (.int .i64 (prevL xs k)) := fun h => by unfold prevL; rw [if_neg (by omega)]; exact hc (k - 1) (by omega)
      have hp0 : k = 0 → prevL xs k = -1 := fun h => if_pos h
      clear hc
      subst ha
      obtain ⟨x, hx⟩ : ∃ x, xs.getD k 0 = x := ⟨_, rfl⟩
      obtain ⟨p, hp⟩ : ∃ p, prevL xs k = p := ⟨_, rfl⟩
      rw [hx] at hck hs hpn
      rw [hp] at hs hpc hp0 HE
      have hin := inB_asc x m hm
      obtain ⟨mm, hmm⟩ : ∃ z, IntKind.i64.wrap ((m : Int) - 1) = z := ⟨_, rfl⟩
      rw [hmm] at hin
      have hmm2 : (m : Int) - 1 = mm := by rw [← hmm]; symm; apply wrapS <;> omega
      have C : Hid (∀ W b, inB x 0 mm = b → Calls Tryd.prog 13 #[.int .i64 x, .int .i64 0, .int .i64 mm] W fun e w' => e = .returned (.bool b) ∧ W = w') := fun W b hb => by rw [← hb]; exact within_any _ _ _ W
      have HMM := Lib.hid hmm
      clear hx hp hmm
      cases hb : (decide (x < 0) || decide ((m : Int) ≤ x)) with
      | true =>
        rw [hb] at hin
        have hz : lostE m p (xs.drop k) = 6 := by
          rw [hs]
          have : ascE m p x = 6 := by unfold ascE; rw [hb]; rfl
          rw [this]; rfl
        have HZ := Lib.hid hz
        have C1 := Lib.hid (fun W => C.out W _ hin)
        clear hs hpn hpc hp0 hin hb hz C
        go_wp2_with (go_at_call 13; first | (refine (C1.out _).mono ?_; rintro e w' ⟨rfl, rfl⟩) | (rw [HMM.out]; refine (C1.out _).mono ?_; rintro e w' ⟨rfl, rfl⟩))
        go_ret
        exact ⟨by rw [HE.out, HZ.out]; rfl, HB.out⟩
      | false =>
        rw [hb] at hin
        have hx0 : 0 ≤ x := by
          have := (Bool.or_eq_false_iff.1 hb).1
          simpa using this
        have hz : lostE m p (xs.drop k) = if x ≤ p then 9 else lostE m x (xs.drop (k + 1)) := by
          rw [hs]
          have : ascE m p x = if x ≤ p then 9 else 0 := by unfold ascE; rw [hb]; rfl
          rw [this]
          by_cases h : x ≤ p
          · rw [if_pos h, if_pos h]; rfl
          · rw [if_neg h, if_neg h]; rfl
        have HZ := Lib.hid hz
        have C1 := Lib.hid (fun W => C.out W _ hin)
        have HPN := Lib.hid hpn
        clear hs hpn hin hb hz C
        by_cases hk0 : k = 0
        · have hpm := hp0 hk0
          have hnle : ¬ x ≤ p := by omega
          have hd0 : decide ((0 : Int) < (k : Int)) = false := by simp; omega
          have hd0n : decide (0 < k) = false := by simp; omega
          have HN := Lib.hid (show lostE m p (xs.drop k) = lostE m x (xs.drop (k + 1)) by rw [HZ.out, if_neg hnle])
          clear hpc hp0 hpm hnle hk0 HZ
          go_wp2_with (go_at_call 13; first | (refine (C1.out _).mono ?_; rintro e w' ⟨rfl, rfl⟩) | (rw [HMM.out]; refine (C1.out _).mono ?_; rintro e w' ⟨rfl, rfl⟩))
          go_upto_region 6 with fail
          refine wp_region_held_drew (S := (fun w' : World => w'.cell? (ad.add k) = some (.int .i64 x))) (by kernel_rfl) (hck) ?_
          intro hHeld
          refine wpAnyH_take (i := 0) (v := ?_) rfl (by kernel_rfl) (by kernel_rfl) (by kernel_rfl) (fun _ _ _ h => h) (Or.inl ⟨by rfl, ?_⟩) (by assumption) ?_
          rotate_left
          · intro w hSw; (try dsimp only at hSw); go_simp; (try (with_reducible rfl))
          try simp only [List.getElem_toArray, List.getElem_cons_succ, List.getElem_cons_zero, Act.put, List.setIfInBounds_toArray, List.set_cons_zero, List.set_cons_succ]
          refine wpAnyH_take (i := 1) (v := ?_) rfl (by kernel_rfl) (by kernel_rfl) (by kernel_rfl) (fun _ _ _ h => h) (Or.inl ⟨by rfl, ?_⟩) (by assumption) ?_
          rotate_left
          · intro w hSw; (try dsimp only at hSw); go_simp; (try (with_reducible rfl))
          try simp only [List.getElem_toArray, List.getElem_cons_succ, List.getElem_cons_zero, Act.put, List.setIfInBounds_toArray, List.set_cons_zero, List.set_cons_succ]
          first | rw [hd0] | rw [hd0n] | skip
          refine wpAnyH_take (i := 2) (v := ?_) rfl (by kernel_rfl) (by kernel_rfl) (by kernel_rfl) (fun _ _ _ h => h) (Or.inl ⟨by rfl, ?_⟩) (by assumption) ?_
          rotate_left
          · intro w hSw; (try dsimp only at hSw); go_simp; (try (with_reducible rfl))
          try simp only [List.getElem_toArray, List.getElem_cons_succ, List.getElem_cons_zero, Act.put, List.setIfInBounds_toArray, List.set_cons_zero, List.set_cons_succ]
          refine wpAnyH_take (i := 3) (v := undef) rfl (by kernel_rfl) (by kernel_rfl) (by kernel_rfl) (fun _ _ _ h => h) (Or.inr ⟨by rfl, rfl⟩) (by assumption) ?_
          try simp only [List.getElem_toArray, List.getElem_cons_succ, List.getElem_cons_zero, Act.put, List.setIfInBounds_toArray, List.set_cons_zero, List.set_cons_succ]
          refine wpAnyH_take (i := 4) (v := undef) rfl (by kernel_rfl) (by kernel_rfl) (by kernel_rfl) (fun _ _ _ h => h) (Or.inr ⟨by rfl, rfl⟩) (by assumption) ?_
          try simp only [List.getElem_toArray, List.getElem_cons_succ, List.getElem_cons_zero, Act.put, List.setIfInBounds_toArray, List.set_cons_zero, List.set_cons_succ]
          refine wpAnyH_take (i := 5) (v := undef) rfl (by kernel_rfl) (by kernel_rfl) (by kernel_rfl) (fun _ _ _ h => h) (Or.inr ⟨by rfl, rfl⟩) (by assumption) ?_
          try simp only [List.getElem_toArray, List.getElem_cons_succ, List.getElem_cons_zero, Act.put, List.setIfInBounds_toArray, List.set_cons_zero, List.set_cons_succ]
          refine wpAnyH_take (i := 6) (v := undef) rfl (by kernel_rfl) (by kernel_rfl) (by kernel_rfl) (fun _ _ _ h => h) (Or.inr ⟨by rfl, rfl⟩) (by assumption) ?_
          try simp only [List.getElem_toArray, List.getElem_cons_succ, List.getElem_cons_zero, Act.put, List.setIfInBounds_toArray, List.set_cons_zero, List.set_cons_succ]
          refine wpAnyH_take (i := 7) (v := undef) rfl (by kernel_rfl) (by kernel_rfl) (by kernel_rfl) (fun _ _ _ h => h) (Or.inr ⟨by rfl, rfl⟩) (by assumption) ?_
          try simp only [List.getElem_toArray, List.getElem_cons_succ, List.getElem_cons_zero, Act.put, List.setIfInBounds_toArray, List.set_cons_zero, List.set_cons_succ]
          refine wpAnyH_take (i := 8) (v := undef) rfl (by kernel_rfl) (by kernel_rfl) (by kernel_rfl) (fun _ _ _ h => h) (Or.inr ⟨by rfl, rfl⟩) (by assumption) ?_
          try simp only [List.getElem_toArray, List.getElem_cons_succ, List.getElem_cons_zero, Act.put, List.setIfInBounds_toArray, List.set_cons_zero, List.set_cons_succ]
          refine wpAnyH_take (i := 9) (v := undef) rfl (by kernel_rfl) (by kernel_rfl) (by kernel_rfl) (fun _ _ _ h => h) (Or.inr ⟨by rfl, rfl⟩) (by assumption) ?_
          try simp only [List.getElem_toArray, List.getElem_cons_succ, List.getElem_cons_zero, Act.put, List.setIfInBounds_toArray, List.set_cons_zero, List.set_cons_succ]
          refine wpAnyH_take (i := 10) (v := undef) rfl (by kernel_rfl) (by kernel_rfl) (by kernel_rfl) (fun _ _ _ h => h) (Or.inr ⟨by rfl, rfl⟩) (by assumption) ?_
          try simp only [List.getElem_toArray, List.getElem_cons_succ, List.getElem_cons_zero, Act.put, List.setIfInBounds_toArray, List.set_cons_zero, List.set_cons_succ]
          refine wpAnyH_take (i := 11) (v := undef) rfl (by kernel_rfl) (by kernel_rfl) (by kernel_rfl) (fun _ _ _ h => h) (Or.inr ⟨by rfl, rfl⟩) (by assumption) ?_
          try simp only [List.getElem_toArray, List.getElem_cons_succ, List.getElem_cons_zero, Act.put, List.setIfInBounds_toArray, List.set_cons_zero, List.set_cons_succ]
          refine wpAnyH_take (i := 12) (v := undef) rfl (by kernel_rfl) (by kernel_rfl) (by kernel_rfl) (fun _ _ _ h => h) (Or.inr ⟨by rfl, rfl⟩) (by assumption) ?_
          try simp only [List.getElem_toArray, List.getElem_cons_succ, List.getElem_cons_zero, Act.put, List.setIfInBounds_toArray, List.set_cons_zero, List.set_cons_succ]
          refine wpAnyH_take (i := 13) (v := ?_) rfl (by kernel_rfl) (by kernel_rfl) (by kernel_rfl) (fun _ _ _ h => h) (Or.inl ⟨by rfl, ?_⟩) (by assumption) ?_
          rotate_left
          · intro w hSw; (try dsimp only at hSw); go_simp; (try (with_reducible rfl))
          try simp only [List.getElem_toArray, List.getElem_cons_succ, List.getElem_cons_zero, Act.put, List.setIfInBounds_toArray, List.set_cons_zero, List.set_cons_succ]
          refine wpAnyH_done (by kernel_rfl) ?_ _
          clear hHeld
          go_wp2
          go_roundw
          case rel => exact ⟨k + 1, by omega, by go_num, by show _ = _; rw [HE.out, HN.out, HPN.out], HB.out.drew⟩
          case measure => simp [intOf]; omega
        · have hcp := hpc (by omega)
          have hd0 : decide ((0 : Int) < (k : Int)) = true := by simp; omega
          have hd0n : decide (0 < k) = true := by simp; omega
          obtain ⟨j, hj⟩ : ∃ j : Nat, k - 1 = j := ⟨_, rfl⟩
          have hjk : (k : Int) - 1 = (j : Int) := by omega
          have hjn : (j : Int) < (n : Int) := by omega
          have hjw : IntKind.i64.wrap (j : Int) = (j : Int) := by apply wrapS <;> omega
          rw [hj] at hcp
          clear hpc hp0 hk0 hj
          cases hle : decide (x ≤ p) with
          | true =>
            have HN := Lib.hid (show lostE m p (xs.drop k) = 9 by rw [HZ.out, if_pos (by simpa using hle)])
            clear HZ
            go_wp2_with (go_at_call 13; first | (refine (C1.out _).mono ?_; rintro e w' ⟨rfl, rfl⟩) | (rw [HMM.out]; refine (C1.out _).mono ?_; rintro e w' ⟨rfl, rfl⟩))
            go_upto_region 6 with fail
            refine wp_region_held_drew (S := (fun w' : World => w'.cell? (ad.add k) = some (.int .i64 x) ∧ w'.cell? (ad.add j) = some (.int .i64 p))) (by kernel_rfl) (⟨hck, hcp⟩) ?_
            intro hHeld
            refine wpAnyH_take (i := 0) (v := ?_) rfl (by kernel_rfl) (by kernel_rfl) (by kernel_rfl) (fun _ _ _ h => h) (Or.inl ⟨by rfl, ?_⟩) (by assumption) ?_
            rotate_left
            · intro w hSw; (try dsimp only at hSw); go_simp; (try (with_reducible rfl))
            try simp only [List.getElem_toArray, List.getElem_cons_succ, List.getElem_cons_zero, Act.put, List.setIfInBounds_toArray, List.set_cons_zero, List.set_cons_succ]
            refine wpAnyH_take (i := 1) (v := ?_) rfl (by kernel_rfl) (by kernel_rfl) (by kernel_rfl) (fun _ _ _ h => h) (Or.inl ⟨by rfl, ?_⟩) (by assumption) ?_
            rotate_left
            · intro w hSw; (try dsimp only at hSw); go_simp; (try (with_reducible rfl))
            try simp only [List.getElem_toArray, List.getElem_cons_succ, List.getElem_cons_zero, Act.put, List.setIfInBounds_toArray, List.set_cons_zero, List.set_cons_succ]
            first | rw [hd0] | rw [hd0n] | skip
            refine wpAnyH_take (i := 2) (v := ?_) rfl (by kernel_rfl) (by kernel_rfl) (by kernel_rfl) (fun _ _ _ h => h) (Or.inl ⟨by rfl, ?_⟩) (by assumption) ?_
            rotate_left
            · intro w hSw; (try dsimp only at hSw); go_simp; (try (with_reducible rfl))
            try simp only [List.getElem_toArray, List.getElem_cons_succ, List.getElem_cons_zero, Act.put, List.setIfInBounds_toArray, List.set_cons_zero, List.set_cons_succ]
            refine wpAnyH_take (i := 3) (v := ?_) rfl (by kernel_rfl) (by kernel_rfl) (by kernel_rfl) (fun _ _ _ h => h) (Or.inl ⟨by rfl, ?_⟩) (by assumption) ?_
            rotate_left
            · intro w hSw; (try dsimp only at hSw); go_simp; (try (with_reducible rfl))
            try simp only [List.getElem_toArray, List.getElem_cons_succ, List.getElem_cons_zero, Act.put, List.setIfInBounds_toArray, List.set_cons_zero, List.set_cons_succ]
            refine wpAnyH_take (i := 4) (v := ?_) rfl (by kernel_rfl) (by kernel_rfl) (by kernel_rfl) (fun _ _ _ h => h) (Or.inl ⟨by rfl, ?_⟩) (by assumption) ?_
            rotate_left
            · intro w hSw; (try dsimp only at hSw); go_simp; (try (with_reducible rfl))
            try simp only [List.getElem_toArray, List.getElem_cons_succ, List.getElem_cons_zero, Act.put, List.setIfInBounds_toArray, List.set_cons_zero, List.set_cons_succ]
            refine wpAnyH_take (i := 5) (v := ?_) rfl (by kernel_rfl) (by kernel_rfl) (by kernel_rfl) (fun _ _ _ h => h) (Or.inl ⟨by rfl, ?_⟩) (by assumption) ?_
            rotate_left
            · intro w hSw; (try dsimp only at hSw); go_simp; (try (with_reducible rfl))
            try simp only [List.getElem_toArray, List.getElem_cons_succ, List.getElem_cons_zero, Act.put, List.setIfInBounds_toArray, List.set_cons_zero, List.set_cons_succ]
            refine wpAnyH_take (i := 6) (v := ?_) rfl (by kernel_rfl) (by kernel_rfl) (by kernel_rfl) (fun _ _ _ h => h) (Or.inl ⟨by rfl, ?_⟩) (by assumption) ?_
            rotate_left
            · intro w hSw; (try dsimp only at hSw); go_simp; (try (with_reducible rfl))
            try simp only [List.getElem_toArray, List.getElem_cons_succ, List.getElem_cons_zero, Act.put, List.setIfInBounds_toArray, List.set_cons_zero, List.set_cons_succ]
            refine wpAnyH_take (i := 7) (v := ?_) rfl (by kernel_rfl) (by kernel_rfl) (by kernel_rfl) (fun _ _ _ h => h) (Or.inl ⟨by rfl, ?_⟩) (by assumption) ?_
            rotate_left
            · intro w hSw; (try dsimp only at hSw); go_simp; (try (with_reducible rfl))
            try simp only [List.getElem_toArray, List.getElem_cons_succ, List.getElem_cons_zero, Act.put, List.setIfInBounds_toArray, List.set_cons_zero, List.set_cons_succ]
            refine wpAnyH_take (i := 8) (v := ?_) rfl (by kernel_rfl) (by kernel_rfl) (by kernel_rfl) (fun _ _ _ h => h) (Or.inl ⟨by rfl, ?_⟩) (by assumption) ?_
            rotate_left
            · intro w hSw; (try dsimp only at hSw); go_simp; (try (with_reducible rfl))
            try simp only [List.getElem_toArray, List.getElem_cons_succ, List.getElem_cons_zero, Act.put, List.setIfInBounds_toArray, List.set_cons_zero, List.set_cons_succ]
            refine wpAnyH_take (i := 9) (v := ?_) rfl (by kernel_rfl) (by kernel_rfl) (by kernel_rfl) (fun _ _ _ h => h) (Or.inl ⟨by rfl, ?_⟩) (by assumption) ?_
            rotate_left
            · intro w hSw; (try dsimp only at hSw); go_simp; (try (with_reducible rfl))
            try simp only [List.getElem_toArray, List.getElem_cons_succ, List.getElem_cons_zero, Act.put, List.setIfInBounds_toArray, List.set_cons_zero, List.set_cons_succ]
            refine wpAnyH_take (i := 10) (v := ?_) rfl (by kernel_rfl) (by kernel_rfl) (by kernel_rfl) (fun _ _ _ h => h) (Or.inl ⟨by rfl, ?_⟩) (by assumption) ?_
            rotate_left
            · intro w hSw; (try dsimp only at hSw); go_simp; (try (with_reducible rfl))
            try simp only [List.getElem_toArray, List.getElem_cons_succ, List.getElem_cons_zero, Act.put, List.setIfInBounds_toArray, List.set_cons_zero, List.set_cons_succ]
            refine wpAnyH_take (i := 11) (v := ?_) rfl (by kernel_rfl) (by kernel_rfl) (by kernel_rfl) (fun _ _ _ h => h) (Or.inl ⟨by rfl, ?_⟩) (by assumption) ?_
            rotate_left
            · intro w hSw; (try dsimp only at hSw); go_simp; (try (with_reducible rfl))
            try simp only [List.getElem_toArray, List.getElem_cons_succ, List.getElem_cons_zero, Act.put, List.setIfInBounds_toArray, List.set_cons_zero, List.set_cons_succ]
            refine wpAnyH_take (i := 12) (v := ?_) rfl (by kernel_rfl) (by kernel_rfl) (by kernel_rfl) (fun _ _ _ h => h) (Or.inl ⟨by rfl, ?_⟩) (by assumption) ?_
            rotate_left
            · intro w hSw; (try dsimp only at hSw); go_simp; (try (with_reducible rfl))
            try simp only [List.getElem_toArray, List.getElem_cons_succ, List.getElem_cons_zero, Act.put, List.setIfInBounds_toArray, List.set_cons_zero, List.set_cons_succ]
            first | rw [hle] | skip
            refine wpAnyH_take (i := 13) (v := ?_) rfl (by kernel_rfl) (by kernel_rfl) (by kernel_rfl) (fun _ _ _ h => h) (Or.inl ⟨by rfl, ?_⟩) (by assumption) ?_
            rotate_left
            · intro w hSw; (try dsimp only at hSw); go_simp; (try (with_reducible rfl))
            try simp only [List.getElem_toArray, List.getElem_cons_succ, List.getElem_cons_zero, Act.put, List.setIfInBounds_toArray, List.set_cons_zero, List.set_cons_succ]
            refine wpAnyH_done (by kernel_rfl) ?_ _
            clear hHeld
            go_wp2
            go_ret
            exact ⟨by rw [HE.out, HN.out]; rfl, HB.out.drew⟩
          | false =>
            have HN := Lib.hid (show lostE m p (xs.drop k) = lostE m x (xs.drop (k + 1)) by rw [HZ.out, if_neg (by simpa using hle)])
            clear HZ
            go_wp2_with (go_at_call 13; first | (refine (C1.out _).mono ?_; rintro e w' ⟨rfl, rfl⟩) | (rw [HMM.out]; refine (C1.out _).mono ?_; rintro e w' ⟨rfl, rfl⟩))
            go_upto_region 6 with fail
            refine wp_region_held_drew (S := (fun w' : World => w'.cell? (ad.add k) = some (.int .i64 x) ∧ w'.cell? (ad.add j) = some (.int .i64 p))) (by kernel_rfl) (⟨hck, hcp⟩) ?_
            intro hHeld
            refine wpAnyH_take (i := 0) (v := ?_) rfl (by kernel_rfl) (by kernel_rfl) (by kernel_rfl) (fun _ _ _ h => h) (Or.inl ⟨by rfl, ?_⟩) (by assumption) ?_
            rotate_left
            · intro w hSw; (try dsimp only at hSw); go_simp; (try (with_reducible rfl))
            try simp only [List.getElem_toArray, List.getElem_cons_succ, List.getElem_cons_zero, Act.put, List.setIfInBounds_toArray, List.set_cons_zero, List.set_cons_succ]
            refine wpAnyH_take (i := 1) (v := ?_) rfl (by kernel_rfl) (by kernel_rfl) (by kernel_rfl) (fun _ _ _ h => h) (Or.inl ⟨by rfl, ?_⟩) (by assumption) ?_
            rotate_left
            · intro w hSw; (try dsimp only at hSw); go_simp; (try (with_reducible rfl))
            try simp only [List.getElem_toArray, List.getElem_cons_succ, List.getElem_cons_zero, Act.put, List.setIfInBounds_toArray, List.set_cons_zero, List.set_cons_succ]
            first | rw [hd0] | rw [hd0n] | skip
            refine wpAnyH_take (i := 2) (v := ?_) rfl (by kernel_rfl) (by kernel_rfl) (by kernel_rfl) (fun _ _ _ h => h) (Or.inl ⟨by rfl, ?_⟩) (by assumption) ?_
            rotate_left
            · intro w hSw; (try dsimp only at hSw); go_simp; (try (with_reducible rfl))
            try simp only [List.getElem_toArray, List.getElem_cons_succ, List.getElem_cons_zero, Act.put, List.setIfInBounds_toArray, List.set_cons_zero, List.set_cons_succ]
            refine wpAnyH_take (i := 3) (v := ?_) rfl (by kernel_rfl) (by kernel_rfl) (by kernel_rfl) (fun _ _ _ h => h) (Or.inl ⟨by rfl, ?_⟩) (by assumption) ?_
            rotate_left
            · intro w hSw; (try dsimp only at hSw); go_simp; (try (with_reducible rfl))
            try simp only [List.getElem_toArray, List.getElem_cons_succ, List.getElem_cons_zero, Act.put, List.setIfInBounds_toArray, List.set_cons_zero, List.set_cons_succ]
            refine wpAnyH_take (i := 4) (v := ?_) rfl (by kernel_rfl) (by kernel_rfl) (by kernel_rfl) (fun _ _ _ h => h) (Or.inl ⟨by rfl, ?_⟩) (by assumption) ?_
            rotate_left
            · intro w hSw; (try dsimp only at hSw); go_simp; (try (with_reducible rfl))
            try simp only [List.getElem_toArray, List.getElem_cons_succ, List.getElem_cons_zero, Act.put, List.setIfInBounds_toArray, List.set_cons_zero, List.set_cons_succ]
            refine wpAnyH_take (i := 5) (v := ?_) rfl (by kernel_rfl) (by kernel_rfl) (by kernel_rfl) (fun _ _ _ h => h) (Or.inl ⟨by rfl, ?_⟩) (by assumption) ?_
            rotate_left
            · intro w hSw; (try dsimp only at hSw); go_simp; (try (with_reducible rfl))
            try simp only [List.getElem_toArray, List.getElem_cons_succ, List.getElem_cons_zero, Act.put, List.setIfInBounds_toArray, List.set_cons_zero, List.set_cons_succ]
            refine wpAnyH_take (i := 6) (v := ?_) rfl (by kernel_rfl) (by kernel_rfl) (by kernel_rfl) (fun _ _ _ h => h) (Or.inl ⟨by rfl, ?_⟩) (by assumption) ?_
            rotate_left
            · intro w hSw; (try dsimp only at hSw); go_simp; (try (with_reducible rfl))
            try simp only [List.getElem_toArray, List.getElem_cons_succ, List.getElem_cons_zero, Act.put, List.setIfInBounds_toArray, List.set_cons_zero, List.set_cons_succ]
            refine wpAnyH_take (i := 7) (v := ?_) rfl (by kernel_rfl) (by kernel_rfl) (by kernel_rfl) (fun _ _ _ h => h) (Or.inl ⟨by rfl, ?_⟩) (by assumption) ?_
            rotate_left
            · intro w hSw; (try dsimp only at hSw); go_simp; (try (with_reducible rfl))
            try simp only [List.getElem_toArray, List.getElem_cons_succ, List.getElem_cons_zero, Act.put, List.setIfInBounds_toArray, List.set_cons_zero, List.set_cons_succ]
            refine wpAnyH_take (i := 8) (v := ?_) rfl (by kernel_rfl) (by kernel_rfl) (by kernel_rfl) (fun _ _ _ h => h) (Or.inl ⟨by rfl, ?_⟩) (by assumption) ?_
            rotate_left
            · intro w hSw; (try dsimp only at hSw); go_simp; (try (with_reducible rfl))
            try simp only [List.getElem_toArray, List.getElem_cons_succ, List.getElem_cons_zero, Act.put, List.setIfInBounds_toArray, List.set_cons_zero, List.set_cons_succ]
            refine wpAnyH_take (i := 9) (v := ?_) rfl (by kernel_rfl) (by kernel_rfl) (by kernel_rfl) (fun _ _ _ h => h) (Or.inl ⟨by rfl, ?_⟩) (by assumption) ?_
            rotate_left
            · intro w hSw; (try dsimp only at hSw); go_simp; (try (with_reducible rfl))
            try simp only [List.getElem_toArray, List.getElem_cons_succ, List.getElem_cons_zero, Act.put, List.setIfInBounds_toArray, List.set_cons_zero, List.set_cons_succ]
            refine wpAnyH_take (i := 10) (v := ?_) rfl (by kernel_rfl) (by kernel_rfl) (by kernel_rfl) (fun _ _ _ h => h) (Or.inl ⟨by rfl, ?_⟩) (by assumption) ?_
            rotate_left
            · intro w hSw; (try dsimp only at hSw); go_simp; (try (with_reducible rfl))
            try simp only [List.getElem_toArray, List.getElem_cons_succ, List.getElem_cons_zero, Act.put, List.setIfInBounds_toArray, List.set_cons_zero, List.set_cons_succ]
            refine wpAnyH_take (i := 11) (v := ?_) rfl (by kernel_rfl) (by kernel_rfl) (by kernel_rfl) (fun _ _ _ h => h) (Or.inl ⟨by rfl, ?_⟩) (by assumption) ?_
            rotate_left
            · intro w hSw; (try dsimp only at hSw); go_simp; (try (with_reducible rfl))
            try simp only [List.getElem_toArray, List.getElem_cons_succ, List.getElem_cons_zero, Act.put, List.setIfInBounds_toArray, List.set_cons_zero, List.set_cons_succ]
            refine wpAnyH_take (i := 12) (v := ?_) rfl (by kernel_rfl) (by kernel_rfl) (by kernel_rfl) (fun _ _ _ h => h) (Or.inl ⟨by rfl, ?_⟩) (by assumption) ?_
            rotate_left
            · intro w hSw; (try dsimp only at hSw); go_simp; (try (with_reducible rfl))
            try simp only [List.getElem_toArray, List.getElem_cons_succ, List.getElem_cons_zero, Act.put, List.setIfInBounds_toArray, List.set_cons_zero, List.set_cons_succ]
            first | rw [hle] | skip
            refine wpAnyH_take (i := 13) (v := ?_) rfl (by kernel_rfl) (by kernel_rfl) (by kernel_rfl) (fun _ _ _ h => h) (Or.inl ⟨by rfl, ?_⟩) (by assumption) ?_
            rotate_left
            · intro w hSw; (try dsimp only at hSw); go_simp; (try (with_reducible rfl))
            try simp only [List.getElem_toArray, List.getElem_cons_succ, List.getElem_cons_zero, Act.put, List.setIfInBounds_toArray, List.set_cons_zero, List.set_cons_succ]
            refine wpAnyH_done (by kernel_rfl) ?_ _
            clear hHeld
            go_wp2
            go_roundw
            case rel => exact ⟨k + 1, by omega, by go_num, by show _ = _; rw [HE.out, HN.out, HPN.out], HB.out.drew⟩
            case measure => simp [intOf]; omega
    · go_wp2
      go_ret
      refine ⟨?_, HB.out⟩
      rw [HE.out, List.drop_of_length_le (by have := HR.out.1; omega)]
      rfl
end Go.Proofs.YtjjflbnopphciabDoor

namespace Go.Proofs.YtjjflbnopphciabDoor
open Go.RowKit

theorem firstE_map_step (f : Int → Int) (xs : List Int) (k : Nat) (hk : k < xs.length) : firstE ((xs.drop k).map f) = if f (xs.getD k 0) = 0 then firstE ((xs.drop (k + 1)).map f) else f (xs.getD k 0) := by
  rw [List.drop_eq_getElem_cons hk]
  simp only [List.map_cons, firstE, List.getD_eq_getElem?_getD, List.getElem?_eq_getElem hk, Option.getD_some]
set_option maxRecDepth 100000 in
set_option maxHeartbeats 2000000 in
theorem checkEachNum (A : Option Addr) (n c : Nat) (xs : List Int)  (w : World) (hr : RdI w A n xs) (hn : n ≤ 1000000) (hC : ∀ x W, x ∈ xs → Below w.heap.size w W → Calls Tryd.prog 52 #[.int .i64 x] W fun e w' => e = .returned (.int .i64 ((fun x => rangeE x 0 65536) x)) ∧ Below W.heap.size W w') :
    Calls Tryd.prog 38 #[.slice A n c, .func (Fn.func 52) #[] #[]] w
      fun e w' => e = .returned (.int .i64 (firstE (xs.map (fun x => rangeE x 0 65536)))) ∧ Below w.heap.size w w' := by
  have HR := Lib.hid hr
  have HC := Lib.hid hC
  clear hr hC
  go_enter Tryd.func38, Tryd.ntmps38
  go_wp2
  go_loopw [10] (fun i wr => ∃ k : Nat, k ≤ n ∧ i = .int .i64 k ∧ Hid (firstE (xs.map (fun x => rangeE x 0 65536)) = firstE ((xs.drop k).map (fun x => rangeE x 0 65536))) ∧ Hid (Below w.heap.size w wr)) (fun i _ => n - (intOf i).toNat)
  case atStart => exact ⟨0, Nat.zero_le _, rfl, rfl, Below.refl _ _⟩
  case round =>
    obtain ⟨k, hk, rfl, HE, HB⟩ := hrel
    by_cases hlt : k < n
    · obtain ⟨ad, ha, _, hc⟩ := (HR.out.below HB.out).2 (by omega)
      have hck := hc k hlt
      clear hc
      subst ha
      have hs := firstE_map_step (fun x => rangeE x 0 65536) xs k (by rw [HR.out.1]; exact hlt)
      have hmem : xs.getD k 0 ∈ xs := by
        rw [List.getD_eq_getElem?_getD, List.getElem?_eq_getElem (by rw [HR.out.1]; exact hlt)]; exact List.getElem_mem _
      obtain ⟨x, hx⟩ : ∃ x, xs.getD k 0 = x := ⟨_, rfl⟩
      rw [hx] at hck hs hmem
      have C0 := HC.out x wr hmem HB.out
      obtain ⟨r, hrr⟩ : ∃ r, (fun x => rangeE x 0 65536) x = r := ⟨_, rfl⟩
      (try dsimp only at hrr)
      (try dsimp only at hs)
      (try dsimp only at C0)
      rw [hrr] at hs C0
      have C := Lib.hid C0
      have HS := Lib.hid hs
      have hkI : (k : Int) < (n : Int) := by omega
      have hszr : w.heap.size ≤ wr.heap.size := HB.out.size
      clear hs hx hrr hmem C0
      go_wp2_with (go_at_call 52; refine C.out.mono ?_; rintro e w' ⟨rfl, hb⟩)
      · have h1 : (r != 0) = true := by assumption
        have HF : Hid (Below w.heap.size w w') := HB.out.trans (hb.mono hszr)
        go_ret
        have h2 : r ≠ 0 := by simpa using h1
        exact ⟨by rw [HE.out, HS.out, if_neg h2]; rfl, HF.out⟩
      · have h1 : (r != 0) = false := by assumption
        have h2 : r = 0 := by simpa using h1
        have HF : Hid (Below w.heap.size w w') := HB.out.trans (hb.mono hszr)
        clear hb
        go_roundw
        case rel =>
          refine ⟨k + 1, by omega, by go_num, ?_, HF.out⟩
          show firstE (xs.map (fun x => rangeE x 0 65536)) = _
          rw [HE.out, HS.out, if_pos h2]
        case measure => simp [intOf]; omega
    · go_wp2
      go_ret
      refine ⟨?_, HB.out⟩
      rw [HE.out, List.drop_of_length_le (by have := HR.out.1; omega)]
      rfl
set_option maxRecDepth 100000 in
theorem checkNumbers_any (arr : Array Value) (xs : List Int) (w : World) (h : Is8 arr xs) :
    Calls Tryd.prog 42 #[.agg arr] w fun e w' => e = .returned (.int .i64 (rangesE xs 0 65536)) ∧ Below w.heap.size w w' := by
  have hrd : RdI (w.alloc (.cells arr 34)) (some ⟨w.heap.size, 0, none⟩) 8 xs := by
    refine ⟨h.len, fun _ => ⟨_, rfl, by simp, fun j hj => ?_⟩⟩
    have hadd : (⟨w.heap.size, 0, none⟩ : Addr).add j = ⟨w.heap.size, j, none⟩ := by unfold Addr.add; split <;> simp_all
    rw [hadd, cell_of_row _ _ j arr _ (0, 0) (heap_alloc_new w _)]
    exact h.at_ j hj
  have C := Lib.hid (fun c => checkEachNum (some ⟨w.heap.size, 0, none⟩) 8 c xs (w.alloc (.cells arr 34)) hrd (by omega) (fun x W _ _ => (checkNumber_any x W).mono (by rintro e w' ⟨h1, rfl⟩; exact ⟨h1, Below.refl _ _⟩)))
  have H := Lib.hid h; clear h hrd
  go_enter Tryd.func42, Tryd.ntmps42
  go_wp2_with fail
  refine (C.out _).mono ?_
  rintro e w' ⟨rfl, hb⟩
  go_wp2
  go_ret
  exact ⟨rfl, ((Below.refl _ _).alloc (Nat.le_refl _) _).trans (hb.mono (by simp))⟩
set_option maxRecDepth 100000 in
theorem cg1_any (g : Nat) (A : Option Addr) (n ca : Nat) (ds : List (List Int)) (i : Nat) (w : World) (hg : w.cell? ⟨g, 0, none⟩ = some (.slice A n ca)) (hr : RdD w A n ds) (hi : i < n) :
    Calls Tryd.prog 40 #[.int .i64 (i : Int), .pointer (some ⟨g, 0, none⟩)] w fun e w' => e = .returned (.int .i64 (rangesE (ds.getD i []) (-32767) 32767)) ∧ Below w.heap.size w w' := by
  obtain ⟨ad, x0, x1, x2, x3, x4, x5, x6, x7, rfl, hbl, hrow, p0, p1, p2, p3, p4, p5, p6, p7⟩ := hr.row hi
  obtain ⟨r, hrr⟩ : ∃ r, rangesE (ds.getD i []) (-32767) 32767 = r := ⟨_, rfl⟩
  rw [hrr]
  rw [hrow] at hrr
  have C : Hid (∀ W, Calls Tryd.prog 27 #[.agg #[.int .i64 x0, .int .i64 x1, .int .i64 x2, .int .i64 x3, .int .i64 x4, .int .i64 x5, .int .i64 x6, .int .i64 x7]] W fun e w' => e = .returned (.int .i64 r) ∧ Below W.heap.size W w') := fun W => by rw [← hrr]; exact checkSamples_any _ _ W (is8_lit x0 x1 x2 x3 x4 x5 x6 x7)
  have hiI : (i : Int) < (n : Int) := by omega
  clear hrow hrr hr
  go_enter Tryd.func40, Tryd.ntmps40
  go_wp2_with fail
  refine (C.out _).mono ?_
  rintro e w' ⟨rfl, hb⟩
  go_wp2
  go_ret
  exact ⟨rfl, hb⟩
set_option maxRecDepth 100000 in
theorem cg2_any (g : Nat) (A : Option Addr) (n ca : Nat) (ds : List (List Int)) (i : Nat) (w : World) (hg : w.cell? ⟨g, 1, none⟩ = some (.slice A n ca)) (hr : RdD w A n ds) (hi : i < n) :
    Calls Tryd.prog 41 #[.int .i64 (i : Int), .pointer (some ⟨g, 0, none⟩)] w fun e w' => e = .returned (.int .i64 (rangesE (ds.getD i []) (0) 65536)) ∧ Below w.heap.size w w' := by
  obtain ⟨ad, x0, x1, x2, x3, x4, x5, x6, x7, rfl, hbl, hrow, p0, p1, p2, p3, p4, p5, p6, p7⟩ := hr.row hi
  obtain ⟨r, hrr⟩ : ∃ r, rangesE (ds.getD i []) (0) 65536 = r := ⟨_, rfl⟩
  rw [hrr]
  rw [hrow] at hrr
  have C : Hid (∀ W, Calls Tryd.prog 42 #[.agg #[.int .i64 x0, .int .i64 x1, .int .i64 x2, .int .i64 x3, .int .i64 x4, .int .i64 x5, .int .i64 x6, .int .i64 x7]] W fun e w' => e = .returned (.int .i64 r) ∧ Below W.heap.size W w') := fun W => by rw [← hrr]; exact checkNumbers_any _ _ W (is8_lit x0 x1 x2 x3 x4 x5 x6 x7)
  have hiI : (i : Int) < (n : Int) := by omega
  clear hrow hrr hr
  go_enter Tryd.func41, Tryd.ntmps41
  go_wp2_with fail
  refine (C.out _).mono ?_
  rintro e w' ⟨rfl, hb⟩
  go_wp2
  go_ret
  exact ⟨rfl, hb⟩
/-- The error of those blocks that are kept. -/
def rowsE (ds : List (List Int)) (lo hi : Int) (ks : List Int) : Int := firstE (ks.map fun x => rangesE (ds.getD x.toNat []) lo hi)
set_option maxRecDepth 100000 in
set_option maxHeartbeats 2000000 in
theorem checkKept1_of (A : Option Addr) (n c : Nat) (xs : List Int) (ds : List (List Int)) (g : Nat) (w : World) (hr : RdI w A n xs) (hn : n ≤ 1000000) (hC : ∀ x W, x ∈ xs → Below w.heap.size w W → Calls Tryd.prog 40 #[.int .i64 x, .pointer (some ⟨g, 0, none⟩)] W fun e w' => e = .returned (.int .i64 ((fun x => rangesE (ds.getD x.toNat []) (-32767) 32767) x)) ∧ Below W.heap.size W w') :
    Calls Tryd.prog 38 #[.slice A n c, .func (Fn.func 40) #[] #[.pointer (some ⟨g, 0, none⟩)]] w
      fun e w' => e = .returned (.int .i64 (firstE (xs.map (fun x => rangesE (ds.getD x.toNat []) (-32767) 32767)))) ∧ Below w.heap.size w w' := by
  have HR := Lib.hid hr
  have HC := Lib.hid hC
  clear hr hC
  go_enter Tryd.func38, Tryd.ntmps38
  go_wp2
  go_loopw [10] (fun i wr => ∃ k : Nat, k ≤ n ∧ i = .int .i64 k ∧ Hid (firstE (xs.map (fun x => rangesE (ds.getD x.toNat []) (-32767) 32767)) = firstE ((xs.drop k).map (fun x => rangesE (ds.getD x.toNat []) (-32767) 32767))) ∧ Hid (Below w.heap.size w wr)) (fun i _ => n - (intOf i).toNat)
  case atStart => exact ⟨0, Nat.zero_le _, rfl, rfl, Below.refl _ _⟩
  case round =>
    obtain ⟨k, hk, rfl, HE, HB⟩ := hrel
    by_cases hlt : k < n
    · obtain ⟨ad, ha, _, hc⟩ := (HR.out.below HB.out).2 (by omega)
      have hck := hc k hlt
      clear hc
      subst ha
      have hs := firstE_map_step (fun x => rangesE (ds.getD x.toNat []) (-32767) 32767) xs k (by rw [HR.out.1]; exact hlt)
      have hmem : xs.getD k 0 ∈ xs := by
        rw [List.getD_eq_getElem?_getD, List.getElem?_eq_getElem (by rw [HR.out.1]; exact hlt)]; exact List.getElem_mem _
      obtain ⟨x, hx⟩ : ∃ x, xs.getD k 0 = x := ⟨_, rfl⟩
      rw [hx] at hck hs hmem
      have C0 := HC.out x wr hmem HB.out
      obtain ⟨r, hrr⟩ : ∃ r, (fun x => rangesE (ds.getD x.toNat []) (-32767) 32767) x = r := ⟨_, rfl⟩
      (try dsimp only at hrr)
      (try dsimp only at hs)
      (try dsimp only at C0)
      rw [hrr] at hs C0
      have C := Lib.hid C0
      have HS := Lib.hid hs
      have hkI : (k : Int) < (n : Int) := by omega
      have hszr : w.heap.size ≤ wr.heap.size := HB.out.size
      clear hs hx hrr hmem C0
      go_wp2_with (go_at_call 40; refine C.out.mono ?_; rintro e w' ⟨rfl, hb⟩)
      · have h1 : (r != 0) = true := by assumption
        have HF : Hid (Below w.heap.size w w') := HB.out.trans (hb.mono hszr)
        go_ret
        have h2 : r ≠ 0 := by simpa using h1
        exact ⟨by rw [HE.out, HS.out, if_neg h2]; rfl, HF.out⟩
      · have h1 : (r != 0) = false := by assumption
        have h2 : r = 0 := by simpa using h1
        have HF : Hid (Below w.heap.size w w') := HB.out.trans (hb.mono hszr)
        clear hb
        go_roundw
        case rel =>
          refine ⟨k + 1, by omega, by go_num, ?_, HF.out⟩
          show firstE (xs.map (fun x => rangesE (ds.getD x.toNat []) (-32767) 32767)) = _
          rw [HE.out, HS.out, if_pos h2]
        case measure => simp [intOf]; omega
    · go_wp2
      go_ret
      refine ⟨?_, HB.out⟩
      rw [HE.out, List.drop_of_length_le (by have := HR.out.1; omega)]
      rfl
theorem checkKept1 (A : Option Addr) (n c : Nat) (xs : List Int) (g : Nat) (B : Option Addr) (m cb : Nat) (ds : List (List Int)) (w : World) (hr : RdI w A n xs) (hn : n ≤ 1000000) (hg : w.cell? ⟨g, 0, none⟩ = some (.slice B m cb)) (hd : RdD w B m ds) (hx : ∀ x ∈ xs, 0 ≤ x ∧ x < m) :
    Calls Tryd.prog 38 #[.slice A n c, .func (Fn.func 40) #[] #[.pointer (some ⟨g, 0, none⟩)]] w
      fun e w' => e = .returned (.int .i64 (rowsE ds (-32767) 32767 xs)) ∧ Below w.heap.size w w' :=
  checkKept1_of A n c xs ds g w hr hn (fun x W hm hb => by
    obtain ⟨h0, h1⟩ := hx x hm
    obtain ⟨i, rfl⟩ := Int.eq_ofNat_of_zero_le h0
    have := cg1_any g B m cb ds i W ((hb.cell (World.block_lt_of_cell? _ _ hg)).trans hg) (hd.below hb) (by omega)
    simpa using this)
set_option maxRecDepth 100000 in
set_option maxHeartbeats 2000000 in
theorem checkKept2_of (A : Option Addr) (n c : Nat) (xs : List Int) (ds : List (List Int)) (g : Nat) (w : World) (hr : RdI w A n xs) (hn : n ≤ 1000000) (hC : ∀ x W, x ∈ xs → Below w.heap.size w W → Calls Tryd.prog 41 #[.int .i64 x, .pointer (some ⟨g, 0, none⟩)] W fun e w' => e = .returned (.int .i64 ((fun x => rangesE (ds.getD x.toNat []) (0) 65536) x)) ∧ Below W.heap.size W w') :
    Calls Tryd.prog 38 #[.slice A n c, .func (Fn.func 41) #[] #[.pointer (some ⟨g, 0, none⟩)]] w
      fun e w' => e = .returned (.int .i64 (firstE (xs.map (fun x => rangesE (ds.getD x.toNat []) (0) 65536)))) ∧ Below w.heap.size w w' := by
  have HR := Lib.hid hr
  have HC := Lib.hid hC
  clear hr hC
  go_enter Tryd.func38, Tryd.ntmps38
  go_wp2
  go_loopw [10] (fun i wr => ∃ k : Nat, k ≤ n ∧ i = .int .i64 k ∧ Hid (firstE (xs.map (fun x => rangesE (ds.getD x.toNat []) (0) 65536)) = firstE ((xs.drop k).map (fun x => rangesE (ds.getD x.toNat []) (0) 65536))) ∧ Hid (Below w.heap.size w wr)) (fun i _ => n - (intOf i).toNat)
  case atStart => exact ⟨0, Nat.zero_le _, rfl, rfl, Below.refl _ _⟩
  case round =>
    obtain ⟨k, hk, rfl, HE, HB⟩ := hrel
    by_cases hlt : k < n
    · obtain ⟨ad, ha, _, hc⟩ := (HR.out.below HB.out).2 (by omega)
      have hck := hc k hlt
      clear hc
      subst ha
      have hs := firstE_map_step (fun x => rangesE (ds.getD x.toNat []) (0) 65536) xs k (by rw [HR.out.1]; exact hlt)
      have hmem : xs.getD k 0 ∈ xs := by
        rw [List.getD_eq_getElem?_getD, List.getElem?_eq_getElem (by rw [HR.out.1]; exact hlt)]; exact List.getElem_mem _
      obtain ⟨x, hx⟩ : ∃ x, xs.getD k 0 = x := ⟨_, rfl⟩
      rw [hx] at hck hs hmem
      have C0 := HC.out x wr hmem HB.out
      obtain ⟨r, hrr⟩ : ∃ r, (fun x => rangesE (ds.getD x.toNat []) (0) 65536) x = r := ⟨_, rfl⟩
      (try dsimp only at hrr)
      (try dsimp only at hs)
      (try dsimp only at C0)
      rw [hrr] at hs C0
      have C := Lib.hid C0
      have HS := Lib.hid hs
      have hkI : (k : Int) < (n : Int) := by omega
      have hszr : w.heap.size ≤ wr.heap.size := HB.out.size
      clear hs hx hrr hmem C0
      go_wp2_with (go_at_call 41; refine C.out.mono ?_; rintro e w' ⟨rfl, hb⟩)
      · have h1 : (r != 0) = true := by assumption
        have HF : Hid (Below w.heap.size w w') := HB.out.trans (hb.mono hszr)
        go_ret
        have h2 : r ≠ 0 := by simpa using h1
        exact ⟨by rw [HE.out, HS.out, if_neg h2]; rfl, HF.out⟩
      · have h1 : (r != 0) = false := by assumption
        have h2 : r = 0 := by simpa using h1
        have HF : Hid (Below w.heap.size w w') := HB.out.trans (hb.mono hszr)
        clear hb
        go_roundw
        case rel =>
          refine ⟨k + 1, by omega, by go_num, ?_, HF.out⟩
          show firstE (xs.map (fun x => rangesE (ds.getD x.toNat []) (0) 65536)) = _
          rw [HE.out, HS.out, if_pos h2]
        case measure => simp [intOf]; omega
    · go_wp2
      go_ret
      refine ⟨?_, HB.out⟩
      rw [HE.out, List.drop_of_length_le (by have := HR.out.1; omega)]
      rfl
theorem checkKept2 (A : Option Addr) (n c : Nat) (xs : List Int) (g : Nat) (B : Option Addr) (m cb : Nat) (ds : List (List Int)) (w : World) (hr : RdI w A n xs) (hn : n ≤ 1000000) (hg : w.cell? ⟨g, 1, none⟩ = some (.slice B m cb)) (hd : RdD w B m ds) (hx : ∀ x ∈ xs, 0 ≤ x ∧ x < m) :
    Calls Tryd.prog 38 #[.slice A n c, .func (Fn.func 41) #[] #[.pointer (some ⟨g, 0, none⟩)]] w
      fun e w' => e = .returned (.int .i64 (rowsE ds (0) 65536 xs)) ∧ Below w.heap.size w w' :=
  checkKept2_of A n c xs ds g w hr hn (fun x W hm hb => by
    obtain ⟨h0, h1⟩ := hx x hm
    obtain ⟨i, rfl⟩ := Int.eq_ofNat_of_zero_le h0
    have := cg2_any g B m cb ds i W ((hb.cell (World.block_lt_of_cell? _ _ hg)).trans hg) (hd.below hb) (by omega)
    simpa using this)
end Go.Proofs.YtjjflbnopphciabDoor

