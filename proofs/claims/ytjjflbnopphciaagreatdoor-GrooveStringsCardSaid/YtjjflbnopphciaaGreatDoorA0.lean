import Derived.Test.YtjjflbnopphciaaGreatDoorP7
import Derived.Test.YtjjflbnopphciaaGreatDoorB7
namespace Go.Proofs.YtjjflbnopphciaaGreatDoor
open Go.RowKit

theorem RdI.drewN {w : World} {A : Option Addr} {n : Nat} {xs : List Int} (h : RdI w A n xs) (k : Nat) : RdI (w.drewN k) A n xs := h
theorem RdI.drew {w : World} {A : Option Addr} {n : Nat} {xs : List Int} (h : RdI w A n xs) : RdI w.drew A n xs := h

theorem ints_any (A B : Option Addr) (n m c d : Nat) (xs ys : List Int) (w : World) (ha : RdI w A n xs) (hb : RdI w B m ys) (hn : n ≤ 9223372036854775806) (hm : m ≤ 9223372036854775806) :
    Calls Tryz.prog 12 #[.slice A n c, .slice B m d] w fun e w' => e = .returned (.bool (decide (xs = ys))) ∧ ∃ k, w' = w.drewN k := by
  by_cases hnm : n = m
  · subst hnm
    have HA := Lib.hid ha; clear ha
    have HB := Lib.hid hb; clear hb
    go_enter Tryz.func12, Tryz.ntmps12
    go_wp2
    go_loopw [5] (fun i wr => ∃ k : Nat, k ≤ n ∧ i = .int .i64 k ∧ Hid (xs.take k = ys.take k) ∧ Hid (∃ j, wr = w.drewN j)) (fun i _ => n - (intOf i).toNat)
    case atStart => exact ⟨0, Nat.zero_le _, rfl, rfl, 0, rfl⟩
    case round =>
      obtain ⟨k, hk, rfl, HE, HJ⟩ := hrel
      obtain ⟨j, hj⟩ := HJ.out
      by_cases hlt : k < n
      · obtain ⟨a, ha, _, hca⟩ := (HA.out.drewN j).2 (by omega)
        obtain ⟨b, hb, _, hcb⟩ := (HB.out.drewN j).2 (by omega)
        have h1 := hca k hlt
        have h2 := hcb k hlt
        rw [← hj] at h1 h2
        have HXT : Hid (xs.take (k + 1) = xs.take k ++ [xs.getD k 0]) := by
          show _ = _
          rw [List.take_succ_eq_append_getElem (by have := HA.out.1; omega)]
          simp [List.getD_eq_getElem?_getD, List.getElem?_eq_getElem (show k < xs.length by have := HA.out.1; omega)]
        have HYT : Hid (ys.take (k + 1) = ys.take k ++ [ys.getD k 0]) := by
          show _ = _
          rw [List.take_succ_eq_append_getElem (by have := HB.out.1; omega)]
          simp [List.getD_eq_getElem?_getD, List.getElem?_eq_getElem (show k < ys.length by have := HB.out.1; omega)]
        subst ha hb
        clear hca hcb
        have HX2 : Hid (xs.getD k 0 = xs.getD k 0) := rfl
        obtain ⟨x, hx⟩ : ∃ x, xs.getD k 0 = x := ⟨_, rfl⟩
        obtain ⟨y, hy⟩ : ∃ y, ys.getD k 0 = y := ⟨_, rfl⟩
        rw [hx] at h1 HXT
        rw [hy] at h2 HYT
        have HXk := Lib.hid hx
        have HYk := Lib.hid hy
        have HJ' := Lib.hid hj
        clear hx hy hj HX2 HJ
        obtain ⟨t, ht⟩ : ∃ t, (x != y) = t := ⟨_, rfl⟩
        have hkI : (k : Int) < (n : Int) := by omega
        have hk0 : (0 : Int) ≤ (k : Int) := by omega
        cases t
        · go_wp2
          go_quiet (fail)
          go_wp2
          go_roundw
          case rel =>
            have hxy : x = y := by simpa using ht
            refine ⟨k + 1, by omega, by go_num, ?_, ?_⟩
            · show _ = _
              rw [HXT.out, HYT.out, HE.out, hxy]
            · show ∃ _, _ = _
              rw [HJ'.out]; exact ⟨_, World.drewN_drewN _ _ _⟩
          case measure => simp [intOf]; omega
        · go_wp2
          go_quiet (fail)
          go_wp2
          go_ret
          have hxy : x ≠ y := by simpa using ht
          refine ⟨?_, ?_⟩
          · have : xs ≠ ys := by
              rintro e
              apply hxy
              rw [← HXk.out, ← HYk.out, e]
            simp [this]
          · rw [HJ'.out]; exact ⟨_, World.drewN_drewN _ _ _⟩
      · obtain rfl : k = n := by omega
        clear hj
        go_wp2
        go_ret
        refine ⟨?_, HJ.out⟩
        have e := HE.out
        rw [List.take_of_length_le (by have := HA.out.1; omega), List.take_of_length_le (by have := HB.out.1; omega)] at e
        simp [e]
  · have h1 : ((n : Int) != (m : Int)) = true := by simp; omega
    have h2 : ((n : Int) == (m : Int)) = false := by simp; omega
    have HX : Hid (xs ≠ ys) := by
      rintro rfl
      exact hnm (ha.1.symm.trans hb.1)
    clear ha hb
    go_enter Tryz.func12, Tryz.ntmps12
    go_wp2
    go_ret
    exact ⟨by simp [HX.out], 0, rfl⟩

end Go.Proofs.YtjjflbnopphciaaGreatDoor
