import Derived.Test.YtmeddnpahkigeaaDoorW73
namespace Go.Proofs.YtmeddnpahkigeaaDoor
open Go.RowKit

theorem first5 (a b c d f : Int) (w : World) :
    Calls Tryd.prog 40 #[.slice (some ⟨w.heap.size, 0, none⟩) 5 5] (w.alloc (.cells #[.int .i64 a, .int .i64 b, .int .i64 c, .int .i64 d, .int .i64 f] 27)) fun e w' => e = .returned (.int .i64 (firstE [a, b, c, d, f])) ∧ w.alloc (.cells #[.int .i64 a, .int .i64 b, .int .i64 c, .int .i64 d, .int .i64 f] 27) = w' :=
  first_new [a, b, c, d, f] 5 _ w rfl (by omega) rfl

set_option maxRecDepth 100000 in
set_option maxHeartbeats 2000000 in
theorem blocksOf_err (A : Option Addr) (n cp : Nat) (xs : List Int) (h c : Int) (w : World) (hr : RdI w A n xs) (hn : n ≤ 7000) (hE : cutE n xs h c ≠ 0) :
    Calls Tryd.prog 8 #[.slice A n cp, .agg #[.int .i64 h, .int .i64 c]] w fun e w' => e = .returned (.tuple #[.slice none 0 0, .int .i64 (cutE n xs h c)]) ∧ Below w.heap.size w w' := by
  have hk : cntN n ≤ 1000 := by unfold cntN; omega
  have hcn : ((n : Int) + 8 - 1).tdiv 8 = (cntN n : Int) := by
    rw [show (n : Int) + 8 - 1 = ((n + 7 : Nat) : Int) by omega]
    unfold cntN
    exact (Int.ofNat_tdiv (n + 7) 8).symm
  have HF := Lib.hid (cutE_first n xs h c hn)
  obtain ⟨E, hEE⟩ : ∃ E, cutE n xs h c = E := ⟨_, rfl⟩
  rw [hEE] at hE HF ⊢
  have CS : Hid (∀ W : World, RdI W A n xs → Calls Tryd.prog 42 #[.slice A n cp] W fun e w' => e = .returned (.int .i64 (rangesE xs (-32767) 32767)) ∧ Below W.heap.size W w') := fun W hW => checkSignal_any A n cp xs W hW (by omega)
  obtain ⟨k, hkk⟩ : ∃ k, cntN n = k := ⟨_, rfl⟩
  obtain ⟨r2, hr2⟩ : ∃ r, rangesE xs (-32767) 32767 = r := ⟨_, rfl⟩
  rw [hkk] at hk hcn HF
  rw [hr2] at CS HF
  clear hkk hr2 hEE
  obtain ⟨w1, hw1⟩ : ∃ W, w.alloc (.cells #[.int .i64 h, .int .i64 c] 24) = W := ⟨_, rfl⟩
  have hB0 : Hid (Below w.heap.size w w1) := by show Below _ _ _; rw [← hw1]; exact (Below.refl _ _).alloc (Nat.le_refl _) _
  have hbx : Hid (Bk w1 w.heap.size 24 #[.int .i64 h, .int .i64 c]) := by show Bk _ _ _ _; rw [← hw1]; exact Bk.new _ _ _
  have HR : Hid (RdI w1 A n xs) := by show RdI _ _ _ _; exact hr.below hB0.out
  have z0 : w1.cell? ⟨w.heap.size, 0, none⟩ = some (.int .i64 h) := by rw [hbx.out.cell]; rfl
  have z1 : w1.cell? ⟨w.heap.size, 1, none⟩ = some (.int .i64 c) := by rw [hbx.out.cell]; rfl
  have hlt : w.heap.size < w1.heap.size := hbx.out.lt
  clear hr
  have HL : Hid (lastC k c = IntKind.i64.wrap (IntKind.i64.wrap (c + (if (k : Int) < 1 then (1 : Int) else (k : Int))) - 1)) := rfl
  obtain ⟨mx, hmx⟩ : ∃ mx : Int, (if (k : Int) < 1 then (1 : Int) else (k : Int)) = mx := ⟨_, rfl⟩
  rw [hmx] at HL
  have HF2 : Hid (firstE [whenE (decide ((40 : Int) < (k : Int))) 8, r2, rangeE h 0 3, rangeE c 0 65535, rangeE (IntKind.i64.wrap (IntKind.i64.wrap (c + mx) - 1)) 0 65535] = E) := by
    show _ = _
    rw [← HL.out, show decide ((40 : Int) < (k : Int)) = decide (40 < k) from decide_eq_decide.2 (by omega)]
    exact HF.out
  go_enter Tryd.func8, Tryd.ntmps8
  go_wp2_with fail
  go_region_held3 (fun w' => RdI w' A n xs ∧ w'.cell? ⟨w.heap.size, 0, none⟩ = some (.int .i64 h) ∧ w'.cell? ⟨w.heap.size, 1, none⟩ = some (.int .i64 c) ∧ w.heap.size < w'.heap.size)
    ((go_split_ands; refine ⟨?_, ?_, ?_, ?_⟩ <;> first
      | assumption | exact HR.out
      | (exact RdI.below (by assumption) hb)
      | (exact RdI.below (by assumption) ((Below.refl _ _).alloc (Nat.le_refl _) _))
      | (rw [hb.cell (by assumption)]; assumption)
      | (rw [World.cell?_alloc_lt _ _ _ (by assumption)]; assumption)
      | (exact Nat.lt_of_lt_of_le (by assumption) hb.size)
      | (simp; omega)))
    (first
      | (go_at_call 44; refine (checkCounter_any _ _).mono ?_; rintro e w' ⟨rfl, rfl⟩)
      | (go_at_call 43; refine (checkChannel_any _ _).mono ?_; rintro e w' ⟨rfl, rfl⟩)
      | (go_at_call 41; refine (when_any _ _ _).mono ?_; rintro e w' ⟨rfl, rfl⟩)
      | (go_at_call 42; refine (CS.out _ (by assumption)).mono ?_; rintro e w' ⟨rfl, hb⟩)
      | (go_at_call 40; refine (first5 _ _ _ _ _ _).mono ?_; rintro e w' ⟨rfl, rfl⟩))
  all_goals
    have HFW : Hid (Below w.heap.size w w') := (hB0.out.drew).trans (hb.mono (by simp; omega))
    have hsz : w.heap.size ≤ w'.heap.size := HFW.out.size
    clear hb
    have HFA := Lib.hid (fun o => HFW.out.alloc hsz o)
    clear hsz
    rw [HF2.out]
    go_wp2
    go_ret2
    exact ⟨rfl, HFA.out _⟩

end Go.Proofs.YtmeddnpahkigeaaDoor
