import Derived.Test.YtepjnkmmielamaaDoorW14
import Derived.Test.YtepjnkmmielamaaDoorGA
namespace Go.Proofs.YtepjnkmmielamaaDoor
open Go.RowKit

/-- Integers as cells. -/
def iArr (xs : List Int) : Array Value := (xs.map (Value.int .i64)).toArray
theorem iArr_size (xs : List Int) : (iArr xs).size = xs.length := by simp [iArr]
theorem iArr_at (xs : List Int) (i : Nat) (h : i < xs.length) : (iArr xs)[i]? = some (.int .i64 (xs.getD i 0)) := by
  simp [iArr, List.getElem?_toArray, List.getD_eq_getElem?_getD, List.getElem?_eq_getElem h]
theorem iArr_set (xs : List Int) (i : Nat) (v : Int) : (iArr xs).setIfInBounds i (.int .i64 v) = iArr (xs.set i v) := by
  simp [iArr, List.map_set]
theorem arrR_zero (c : Nat) : arrR c 0 = iArr (List.replicate c 0) := by
  simp [arrR, rowR, repL, iArr]

theorem rd8 (arr : Array Value) (xs : List Int) (w : World) (t : TypeId) (h : Is8 arr xs) : RdI (w.alloc (.cells arr t)) (some ⟨w.heap.size, 0, none⟩) 8 xs := by
  refine ⟨h.len, fun _ => ⟨_, rfl, by simp, fun j hj => ?_⟩⟩
  have hadd : (⟨w.heap.size, 0, none⟩ : Addr).add j = ⟨w.heap.size, j, none⟩ := by unfold Addr.add; split <;> simp_all
  rw [hadd, cell_of_row _ _ j arr _ (0, 0) (heap_alloc_new w _)]
  exact h.at_ j hj

theorem rangesE_smpB (xs : List Int) : rangesE xs (-32767) 32767 = if smpB xs then 0 else 2 := by
  unfold smpB
  rcases rangesE_cases xs (-32767) 32767 with e | e <;> simp [e]

theorem samplesErr_any (arr : Array Value) (xs : List Int) (w : World) (h : Is8 arr xs) :
    Calls Tryd.prog 48 #[.agg arr] w fun e w' => e = .returned (.int .i64 (rangesE xs (-32767) 32767)) ∧ Below w.heap.size w w' := by
  obtain ⟨b, hb⟩ : ∃ b, smpB xs = b := ⟨_, rfl⟩
  have hre := rangesE_smpB xs
  rw [hb] at hre
  have HRE := Lib.hid hre
  have C3 : Hid (∀ cap, Calls Tryd.prog 88 #[.slice (some ⟨w.heap.size, 0, none⟩) 8 cap] (w.alloc (.cells arr 35)) fun e w' => e = .returned (.bool b) ∧ (w.alloc (.cells arr 35)) = w') := fun cap => by rw [← hb]; exact areSamples_any _ 8 cap _ _ (rd8 arr xs w _ h) (by omega)
  clear h hb hre
  cases b
  all_goals
    go_enter Tryd.func48, Tryd.ntmps48
    go_wp2_with (go_at_call 88; refine (C3.out _).mono ?_; rintro e w' ⟨rfl, rfl⟩)
    go_ret
    exact ⟨by rw [HRE.out]; rfl, (Below.refl _ _).alloc (Nat.le_refl _) _⟩

def parE (p k : Int) : Int := if inB p 0 2 && inB k 0 17 then 0 else 2

theorem parametersErr_any (p k : Int) (w : World) :
    Calls Tryd.prog 50 #[.int .i64 p, .int .i64 k] w fun e w' => e = .returned (.int .i64 (parE p k)) ∧ w = w' := by
  obtain ⟨b1, hb1⟩ : ∃ b, inB p 0 2 = b := ⟨_, rfl⟩
  obtain ⟨b2, hb2⟩ : ∃ b, inB k 0 17 = b := ⟨_, rfl⟩
  have C1 : Hid (∀ W, Calls Tryd.prog 26 #[.int .i64 p, .int .i64 0, .int .i64 2] W fun e w' => e = .returned (.bool b1) ∧ W = w') := fun W => by rw [← hb1]; exact within_any _ _ _ W
  have C2 : Hid (∀ W, Calls Tryd.prog 26 #[.int .i64 k, .int .i64 0, .int .i64 17] W fun e w' => e = .returned (.bool b2) ∧ W = w') := fun W => by rw [← hb2]; exact within_any _ _ _ W
  have HE : Hid (parE p k = if b1 && b2 then 0 else 2) := by show parE p k = _; rw [parE, hb1, hb2]
  clear hb1 hb2
  cases b1 <;> cases b2
  all_goals
    go_enter Tryd.func50, Tryd.ntmps50
    go_wp2_with (first
      | (go_at_call 26; (with_reducible refine (C1.out _).mono ?_); rintro e w' ⟨rfl, rfl⟩)
      | (go_at_call 26; (with_reducible refine (C2.out _).mono ?_); rintro e w' ⟨rfl, rfl⟩))
    go_ret
    exact ⟨by rw [HE.out]; rfl, rfl⟩

theorem folded_any (r : Int) (w : World) (h0 : -1000000 ≤ r) (h1 : r ≤ 1000000) :
    Calls Tryd.prog 106 #[.int .i64 r] w fun e w' => e = .returned (.int .i64 (fold1 r)) ∧ w = w' := by
  have HE : Hid (fold1 r = if 0 ≤ r then 2 * r else -2 * r - 1) := rfl
  by_cases hr : 0 ≤ r
  all_goals
    go_enter Tryd.func106, Tryd.ntmps106
    go_wp2
    go_ret
    refine ⟨?_, rfl⟩
    rw [HE.out]
    first | (rw [if_pos hr]; rfl) | (rw [if_neg (by omega)]; rfl)

theorem power_any (k : Nat) (w : World) (hk : k ≤ 17) :
    Calls Tryd.prog 108 #[.int .i64 k] w fun e w' => e = .returned (.int .i64 (pw k)) ∧ w = w' := by
  go_enter Tryd.func108, Tryd.ntmps108
  go_wp2
  go_loop [3, 4] (fun n i => ∃ j : Nat, j ≤ k ∧ i = .int .i64 j ∧ n = .int .i64 (pw j)) (fun _ i => k - (intOf i).toNat)
  case atStart => exact ⟨0, by omega, rfl, rfl⟩
  case round =>
    obtain ⟨j, hj, rfl, rfl⟩ := hrel
    by_cases hlt : j < k
    · have hs := Lib.hid (pw_succ j)
      have hb := pw_bd j (by omega)
      obtain ⟨q, hq⟩ : ∃ q, pw j = q := ⟨_, rfl⟩
      rw [hq] at hs hb ⊢
      clear hq
      go_wp2
      go_round
      case rel => exact ⟨j + 1, by omega, by go_num, by rw [hs.out]⟩
      case measure => simp [intOf]; omega
    · obtain rfl : j = k := by omega
      go_wp2
      go_ret
      exact ⟨rfl, rfl⟩

end Go.Proofs.YtepjnkmmielamaaDoor
