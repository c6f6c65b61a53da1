import Derived.Test.YtepjnkmmielamaaDoorW5
import Derived.Test.YtepjnkmmielamaaDoorGA
namespace Go.Proofs.YtepjnkmmielamaaDoor
open Go.RowKit

/-- An array of eight integers. -/
structure Is8 (arr : Array Value) (xs : List Int) : Prop where
  size : arr.size = 8
  len : xs.length = 8
  at_ : ∀ j, j < 8 → arr[j]? = some (.int .i64 (xs.getD j 0))

theorem arrUnder : Tryd.prog.underlying 35 = some (.array 8 3) := by kernel_rfl
theorem arrInfo : (Tryd.prog.info? 35).map (·.size) = some 8 := by kernel_rfl
theorem Is8.info {arr : Array Value} {xs : List Int} (h : Is8 arr xs) : (Tryd.prog.info? 35).map (·.size) = some arr.size := by rw [h.size]; exact arrInfo

theorem Is8.ix {arr : Array Value} {xs : List Int} (h : Is8 arr xs) (k : Nat) (hk : k < 8) (w : World) :
    (Instr.index 35 (.agg arr) (.int .i64 (k : Int))).run Tryd.prog w = .ok (.int .i64 (xs.getD k 0)) w := by
  have h1 := h.at_ k hk
  have h2 : (sizeOf 3).run Tryd.prog w = .ok 1 w := by kernel_rfl
  have h3 : (0 : Int) ≤ k ∧ (k : Int) < ((8 : Nat) : Int) := by omega
  have h4 : (isAgg 3).run Tryd.prog w = .ok false w := by kernel_rfl
  unfold Instr.index
  simp only [asIntOf, Sem.run_bind, Sem.run_pure, Result.andThen_ok, run_underlying arrUnder, h2, Int.toNat_natCast, Nat.mul_one]
  rw [if_pos h3]
  simp [Go.part, Sem.run_bind, h4, h1]

theorem checkSamples_any (arr : Array Value) (xs : List Int) (w : World) (h : Is8 arr xs) :
    Calls Tryd.prog 99 #[.agg arr] w fun e w' => e = .returned (.int .i64 (rangesE xs (-32767) 32767)) ∧ Below w.heap.size w w' := by
  have hrd : RdI (w.alloc (.cells arr 35)) (some ⟨w.heap.size, 0, none⟩) 8 xs := by
    refine ⟨h.len, fun _ => ⟨_, rfl, by simp, fun j hj => ?_⟩⟩
    have hadd : (⟨w.heap.size, 0, none⟩ : Addr).add j = ⟨w.heap.size, j, none⟩ := by unfold Addr.add; split <;> simp_all
    rw [hadd, cell_of_row _ _ j arr _ (0, 0) (heap_alloc_new w _)]
    exact h.at_ j hj
  have H := Lib.hid h; clear h
  have HR := Lib.hid hrd; clear hrd
  go_enter Tryd.func99, Tryd.ntmps99
  go_wp2_with fail
  refine (checkSignal_any _ 8 8 xs _ HR.out (by omega)).mono ?_
  rintro e w' ⟨rfl, hb⟩
  go_wp2
  go_ret
  exact ⟨rfl, ((Below.refl _ _).alloc (Nat.le_refl _) _).trans (hb.mono (by simp))⟩

theorem bitsFor_any (arr : Array Value) (us : List Int) (k : Nat) (w : World) (h : Is8 arr us) (hs : Small us) (hk : k ≤ 17) :
    Calls Tryd.prog 100 #[.agg arr, .int .i64 k] w fun e w' => e = .returned (.int .i64 (bitsF us k)) ∧ Below w.heap.size w w' := by
  have H := Lib.hid h; clear h
  have HS := Lib.hid hs; clear hs
  go_enter Tryd.func100, Tryd.ntmps100
  go_wp2_with (with_reducible refine wpList_load_row rfl 35 (.tmp 2) rfl w.heap.size rfl 35 arr (0, 0) _ (heap_alloc_new w _) arrUnder rfl H.out.info ?_)
  go_loop [5, 9] (fun n i => ∃ j : Nat, j ≤ 8 ∧ i = .int .i64 j ∧ n = .int .i64 (bitsTo us k j)) (fun _ i => 8 - (intOf i).toNat)
  case atStart => exact ⟨0, Nat.zero_le _, rfl, by rw [bitsTo_zero]⟩
  case round =>
    obtain ⟨j, hj, rfl, rfl⟩ := hrel
    have hb := bitsTo_bd us k j HS.out hk (by rw [H.out.len]; exact hj)
    by_cases hlt : j < 8
    · have hst := bitsTo_step us k j (by rw [H.out.len]; exact hlt)
      obtain ⟨u, hu⟩ : ∃ u, us.getD j 0 = u := ⟨_, rfl⟩
      have hq := quo_bd _ k (HS.out j).1 (HS.out j).2
      have hu0 := (HS.out j).1
      have hix := H.out.ix j hlt
      rw [hu] at hst hq hix hu0
      clear hu
      obtain ⟨N, hN⟩ : ∃ N, bitsTo us k j = N := ⟨_, rfl⟩
      rw [hN] at hst hb ⊢
      have HST := Lib.hid hst
      clear hst hN
      go_wp2
      go_round
      case rel => exact ⟨j + 1, by omega, by go_num, by rw [HST.out]⟩
      case measure => simp [intOf]; omega
    · obtain rfl : j = 8 := by omega
      go_wp2
      go_ret
      exact ⟨rfl, (Below.refl _ _).alloc (Nat.le_refl _) _⟩

end Go.Proofs.YtepjnkmmielamaaDoor
