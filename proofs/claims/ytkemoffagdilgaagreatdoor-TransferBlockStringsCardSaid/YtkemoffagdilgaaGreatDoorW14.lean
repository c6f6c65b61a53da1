import Derived.Test.YtkemoffagdilgaaGreatDoorW13
namespace Go.Proofs.YtkemoffagdilgaaGreatDoor
open Go.RowKit

def smpB (xs : List Int) : Bool := decide (rangesE xs (-32767) 32767 = 0)

theorem isSample_any (n : Int) (w : World) :
    Calls Tryz.prog 69 #[.int .i64 n] w fun e w' => e = .returned (.bool (inB n (-32767) 32767)) ∧ w = w' := by
  go_enter Tryz.func69, Tryz.ntmps69
  go_wp2_with (go_at_call 22; refine (within_any _ _ _ _).mono ?_; rintro e w' ⟨rfl, rfl⟩)
  go_ret
  exact ⟨rfl, rfl⟩

theorem areSamples_any (A : Option Addr) (n c : Nat) (xs : List Int) (w : World) (hr : RdI w A n xs) (hn : n ≤ 9223372036854775807) :
    Calls Tryz.prog 50 #[.slice A n c] w fun e w' => e = .returned (.bool (smpB xs)) ∧ w = w' := by
  have HR := Lib.hid hr; clear hr
  go_enter Tryz.func50, Tryz.ntmps50
  go_wp2
  go_loop [3] (fun i => ∃ k : Nat, k ≤ n ∧ i = .int .i64 k ∧ Hid (rangesE xs (-32767) 32767 = rangesE (xs.drop k) (-32767) 32767)) (fun i => n - (intOf i).toNat)
  case atStart => exact ⟨0, Nat.zero_le _, rfl, rfl⟩
  case round =>
    obtain ⟨k, hk, rfl, HE⟩ := hrel
    by_cases hlt : k < n
    · obtain ⟨ad, ha, _, hc⟩ := HR.out.2 (by omega)
      have hck := hc k hlt
      clear hc
      subst ha
      obtain ⟨x, hx⟩ : ∃ x, xs.getD k 0 = x := ⟨_, rfl⟩
      have hs := rangesE_step xs (-32767) 32767 k (by have := HR.out.1; omega)
      rw [hx] at hck hs
      have HS := Lib.hid hs; clear hs hx
      obtain ⟨b, hb⟩ : ∃ b, inB x (-32767) 32767 = b := ⟨_, rfl⟩
      have C : Hid (∀ W, Calls Tryz.prog 69 #[.int .i64 x] W fun e w' => e = .returned (.bool b) ∧ W = w') := fun W => by rw [← hb]; exact isSample_any x W
      have hre : rangeE x (-32767) 32767 = if b then 0 else 2 := by rw [rangeE, hb]
      have HRE := Lib.hid hre
      clear hre hb
      cases b
      · go_wp2_with (go_at_call 69; refine (C.out _).mono ?_; rintro e w' ⟨rfl, rfl⟩)
        go_ret
        refine ⟨?_, rfl⟩
        have e : rangesE xs (-32767) 32767 = 2 := by rw [HE.out, HS.out, HRE.out]; rfl
        simp [smpB, e]
      · go_wp2_with (go_at_call 69; refine (C.out _).mono ?_; rintro e w' ⟨rfl, rfl⟩)
        go_round
        case rel =>
          refine ⟨k + 1, by omega, by go_num, ?_⟩
          show rangesE xs (-32767) 32767 = _
          rw [HE.out, HS.out, HRE.out]
          rfl
        case measure => simp [intOf]; omega
    · go_wp2
      go_ret
      refine ⟨?_, rfl⟩
      have e : rangesE xs (-32767) 32767 = 0 := by rw [HE.out, List.drop_of_length_le (by have := HR.out.1; omega)]; rfl
      simp [smpB, e]

theorem channelErr_any (n : Int) (w : World) :
    Calls Tryz.prog 49 #[.int .i64 n] w fun e w' => e = .returned (.int .i64 (rangeE n 0 3)) ∧ w = w' := by
  obtain ⟨b, hb⟩ : ∃ b, inB n 0 3 = b := ⟨_, rfl⟩
  have hre : rangeE n 0 3 = if b then 0 else 2 := by rw [rangeE, hb]
  have C : Hid (∀ W, Calls Tryz.prog 22 #[.int .i64 n, .int .i64 0, .int .i64 3] W fun e w' => e = .returned (.bool b) ∧ W = w') := fun W => by rw [← hb]; exact within_any n 0 3 W
  have HRE := Lib.hid hre
  clear hre hb
  cases b
  all_goals
    go_enter Tryz.func49, Tryz.ntmps49
    go_wp2_with (go_at_call 22; refine (C.out _).mono ?_; rintro e w' ⟨rfl, rfl⟩)
    go_ret
    exact ⟨by rw [HRE.out]; rfl, rfl⟩

theorem contE_cases (c h : Int) (xs : List Int) : contE c h xs = if inB c 0 65535 && inB h 0 3 && smpB xs then 0 else 2 := by
  unfold contE smpB rangeE
  rcases rangesE_cases xs (-32767) 32767 with e | e <;> cases inB c 0 65535 <;> cases inB h 0 3 <;> simp [firstE, e]

set_option maxRecDepth 100000 in
theorem contentErr_any (c h x0 x1 x2 x3 x4 x5 x6 x7 s : Int) (w : World) :
    Calls Tryz.prog 24 #[.agg #[.int .i64 c, .int .i64 h, .int .i64 x0, .int .i64 x1, .int .i64 x2, .int .i64 x3, .int .i64 x4, .int .i64 x5, .int .i64 x6, .int .i64 x7, .int .i64 s]] w fun e w' => e = .returned (.int .i64 (contE c h [x0, x1, x2, x3, x4, x5, x6, x7])) ∧ Below w.heap.size w w' := by
  have hcs := contE_cases c h [x0, x1, x2, x3, x4, x5, x6, x7]
  obtain ⟨b1, hb1⟩ : ∃ b, inB c 0 65535 = b := ⟨_, rfl⟩
  obtain ⟨b2, hb2⟩ : ∃ b, inB h 0 3 = b := ⟨_, rfl⟩
  obtain ⟨b3, hb3⟩ : ∃ b, smpB [x0, x1, x2, x3, x4, x5, x6, x7] = b := ⟨_, rfl⟩
  have C1 : Hid (∀ W, Calls Tryz.prog 22 #[.int .i64 c, .int .i64 0, .int .i64 65535] W fun e w' => e = .returned (.bool b1) ∧ W = w') := fun W => by rw [← hb1]; exact within_any c 0 65535 W
  have hre : rangeE h 0 3 = if b2 then 0 else 2 := by rw [rangeE, hb2]
  obtain ⟨r2, hr2⟩ : ∃ r, (if b2 then (0 : Int) else 2) = r := ⟨_, rfl⟩
  have C2 : Hid (∀ W, Calls Tryz.prog 49 #[.int .i64 h] W fun e w' => e = .returned (.int .i64 r2) ∧ W = w') := fun W => by rw [← hr2, ← hre]; exact channelErr_any h W
  have hrd : RdI (w.alloc (.cells #[.int .i64 c, .int .i64 h, .int .i64 x0, .int .i64 x1, .int .i64 x2, .int .i64 x3, .int .i64 x4, .int .i64 x5, .int .i64 x6, .int .i64 x7, .int .i64 s] 24)) (some ⟨w.heap.size, 2, none⟩) 8 [x0, x1, x2, x3, x4, x5, x6, x7] := by
    refine ⟨rfl, fun _ => ⟨_, rfl, by simp, fun j hj => ?_⟩⟩
    have hadd : (⟨w.heap.size, 2, none⟩ : Addr).add j = ⟨w.heap.size, 2 + j, none⟩ := by unfold Addr.add; split <;> simp_all
    rw [hadd, cell_of_row _ _ _ _ _ (0, 0) (heap_alloc_new w _)]
    match j, hj with
    | 0, _ => rfl
    | 1, _ => rfl
    | 2, _ => rfl
    | 3, _ => rfl
    | 4, _ => rfl
    | 5, _ => rfl
    | 6, _ => rfl
    | 7, _ => rfl
  have C3 : Hid (∀ cap, Calls Tryz.prog 50 #[.slice (some ⟨w.heap.size, 2, none⟩) 8 cap] (w.alloc (.cells #[.int .i64 c, .int .i64 h, .int .i64 x0, .int .i64 x1, .int .i64 x2, .int .i64 x3, .int .i64 x4, .int .i64 x5, .int .i64 x6, .int .i64 x7, .int .i64 s] 24)) fun e w' => e = .returned (.bool b3) ∧ (w.alloc (.cells #[.int .i64 c, .int .i64 h, .int .i64 x0, .int .i64 x1, .int .i64 x2, .int .i64 x3, .int .i64 x4, .int .i64 x5, .int .i64 x6, .int .i64 x7, .int .i64 s] 24)) = w') := fun cap => by rw [← hb3]; exact areSamples_any _ 8 cap _ _ hrd (by omega)
  rw [hb1, hb2, hb3] at hcs
  have HCS := Lib.hid hcs
  clear hcs hb1 hb2 hb3 hre hrd
  cases b1 <;> cases b2 <;> cases b3 <;> (simp at hr2; subst hr2)
  all_goals
    go_enter Tryz.func24, Tryz.ntmps24
    go_wp2_with (first
      | (go_at_call 22; refine (C1.out _).mono ?_; rintro e w' ⟨rfl, rfl⟩)
      | (go_at_call 49; refine (C2.out _).mono ?_; rintro e w' ⟨rfl, rfl⟩)
      | (go_at_call 50; refine (C3.out _).mono ?_; rintro e w' ⟨rfl, rfl⟩))
    go_ret
    exact ⟨by rw [HCS.out]; rfl, (Below.refl _ _).alloc (Nat.le_refl _) _⟩

theorem refSumOf_ok (c h x0 x1 x2 x3 x4 x5 x6 x7 s : Int) (w : World) (hc : 0 ≤ c ∧ c ≤ 65535) (hh : 0 ≤ h ∧ h ≤ 3) (hxs : Bnd [x0, x1, x2, x3, x4, x5, x6, x7] 32767) :
    Calls Tryz.prog 25 #[.agg #[.int .i64 c, .int .i64 h, .int .i64 x0, .int .i64 x1, .int .i64 x2, .int .i64 x3, .int .i64 x4, .int .i64 x5, .int .i64 x6, .int .i64 x7, .int .i64 s]] w fun e w' => e = .returned (.int .i64 (sumT c h [x0, x1, x2, x3, x4, x5, x6, x7])) ∧ Below w.heap.size w w' := by
  have H := Lib.hid (is8_lit x0 x1 x2 x3 x4 x5 x6 x7)
  have HB := Lib.hid hxs
  clear hxs
  go_enter Tryz.func25, Tryz.ntmps25
  go_wp2
  go_loop [3, 4] (fun n i => ∃ k : Nat, k ≤ 8 ∧ i = .int .i64 k ∧ n = .int .i64 (sumTo c h [x0, x1, x2, x3, x4, x5, x6, x7] k)) (fun _ i => 8 - (intOf i).toNat)
  case atStart => exact ⟨0, by omega, rfl, rfl⟩
  case round =>
    obtain ⟨k, hk, rfl, rfl⟩ := hrel
    have hbd := sumTo_bd c h [x0, x1, x2, x3, x4, x5, x6, x7] k hk hc hh HB.out
    by_cases hlt : k < 8
    · have hcell : (w.alloc (.cells #[.int .i64 c, .int .i64 h, .int .i64 x0, .int .i64 x1, .int .i64 x2, .int .i64 x3, .int .i64 x4, .int .i64 x5, .int .i64 x6, .int .i64 x7, .int .i64 s] 24)).cell? ⟨w.heap.size, 2 + k, none⟩ = some (.int .i64 (List.getD [x0, x1, x2, x3, x4, x5, x6, x7] k 0)) := by
        rw [cell_of_row _ _ _ _ _ (0, 0) (heap_alloc_new w _)]
        match k, hlt with
        | 0, _ => rfl
        | 1, _ => rfl
        | 2, _ => rfl
        | 3, _ => rfl
        | 4, _ => rfl
        | 5, _ => rfl
        | 6, _ => rfl
        | 7, _ => rfl
      have hxb := HB.out k
      have hst : Hid (sumTo c h [x0, x1, x2, x3, x4, x5, x6, x7] (k + 1) = sumTo c h [x0, x1, x2, x3, x4, x5, x6, x7] k + ((k : Int) + 1) * (List.getD [x0, x1, x2, x3, x4, x5, x6, x7] k 0 + 32768)) := rfl
      obtain ⟨x, hx⟩ : ∃ x, List.getD [x0, x1, x2, x3, x4, x5, x6, x7] k 0 = x := ⟨_, rfl⟩
      obtain ⟨n, hn⟩ : ∃ n, sumTo c h [x0, x1, x2, x3, x4, x5, x6, x7] k = n := ⟨_, rfl⟩
      rw [hx] at hcell hxb hst
      rw [hn] at hst hbd ⊢
      clear hx hn
      have hm := mul_bd2 ((k : Int) + 1) (x + 32768) 8 65535 (by omega) (by omega) (by omega) (by omega)
      go_wp2
      go_round
      case rel => exact ⟨k + 1, by omega, by go_num, by rw [hst.out]⟩
      case measure => simp [intOf]; omega
    · obtain rfl : k = 8 := by omega
      obtain ⟨n, hn⟩ : ∃ n, sumTo c h [x0, x1, x2, x3, x4, x5, x6, x7] 8 = n := ⟨_, rfl⟩
      have hT : Hid (sumT c h [x0, x1, x2, x3, x4, x5, x6, x7] = n % 65537) := by show sumT _ _ _ = _; rw [sumT, hn]
      rw [hn] at hbd ⊢
      clear hn
      go_wp2_with (go_at_call 51; refine (mod_any n 65537 (by omega) (by omega) (by omega) (by omega) _).mono ?_; rintro e w' ⟨rfl, rfl⟩)
      go_ret
      exact ⟨by rw [hT.out]; rfl, (Below.refl _ _).alloc (Nat.le_refl _) _⟩

end Go.Proofs.YtkemoffagdilgaaGreatDoor
