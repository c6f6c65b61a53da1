import Derived.Test.YtjjflbnopphciaaGreatDoorXC
import Derived.Test.YtjjflbnopphciaaGreatDoorXF
import Derived.Test.YtjjflbnopphciaaGreatDoorR6
import Derived.Test.YtjjflbnopphciaaGreatDoorP6
import Derived.Test.YtjjflbnopphciaaGreatDoorR5
import Derived.Test.YtjjflbnopphciaaGreatDoorXG
namespace Go.Proofs.YtjjflbnopphciaaGreatDoor
open Go.RowKit

set_option maxRecDepth 100000 in
set_option maxHeartbeats 4000000 in
theorem refGridErr_any (A : Option Addr) (n c R C : Nat) (rows : List (List Int)) (w : World) (hr : RdG w A n rows) (hn : n ≤ 9223372036854775806) :
    Calls Tryz.prog 77 #[.slice A n c, .int .i64 R, .int .i64 C] w fun e w' => e = .returned (.int .i64 (gridE R C rows)) ∧ Below w.heap.size w w' := by
  by_cases h0 : n = 0
  · subst h0
    have he := Lib.hid (gridE_zero (R := R) (C := C) hr.1)
    clear hr
    go_enter Tryz.func77, Tryz.ntmps77
    go_wp2
    go_ret
    exact ⟨by rw [he.out]; rfl, Below.refl _ _⟩
  · have HR := Lib.hid hr
    have HRL : Hid (rows.length = n) := hr.1
    obtain ⟨ad, rfl, hadb, hc⟩ := hr.2 (by omega)
    obtain ⟨B0, m0, c0, hck, hrow, hm⟩ := hc 0 (by omega)
    clear hc
    have HE := Lib.hid (gridE_row (R := R) (C := C) hr.1 (by omega) hrow.1)
    rw [addZ] at hck
    clear hr hrow
    have hn1 : ((n : Int) == 0) = false := by simp; omega
    have hnp : (0 : Int) < (n : Int) := by omega
    have hnN : 0 < n := by omega
    by_cases hm0 : m0 = 0
    · subst hm0
      have he : Hid (gridE R C rows = 10) := by show _ = _; rw [HE.out]; rfl
      go_enter Tryz.func77, Tryz.ntmps77
      go_wp2
      go_ret
      exact ⟨by rw [he.out]; rfl, Below.refl _ _⟩
    · have hm1 : ((m0 : Int) == 0) = false := by simp; omega
      have hmp : (0 : Int) < (m0 : Int) := by omega
      by_cases hR : R < n
      · have he : Hid (gridE R C rows = 8) := by show _ = _; rw [HE.out, if_neg hm0, if_pos (.inl hR)]
        have hRI : (R : Int) < (n : Int) := by omega
        go_enter Tryz.func77, Tryz.ntmps77
        go_wp2
        go_ret
        exact ⟨by rw [he.out]; rfl, Below.refl _ _⟩
      · have hRI : ¬ (R : Int) < (n : Int) := by omega
        by_cases hC : C < m0
        · have he : Hid (gridE R C rows = 8) := by show _ = _; rw [HE.out, if_neg hm0, if_pos (.inr hC)]
          have hCI : (C : Int) < (m0 : Int) := by omega
          go_enter Tryz.func77, Tryz.ntmps77
          go_wp2
          go_ret
          exact ⟨by rw [he.out]; rfl, Below.refl _ _⟩
        · have he : Hid (gridE R C rows = rowsE m0 0 255 rows) := by show _ = _; rw [HE.out, if_neg hm0, if_neg (by omega)]
          have hCI : ¬ (C : Int) < (m0 : Int) := by omega
          have HQ0 : Hid (∀ W, Below w.heap.size w W → W.cell? ad = some (.slice B0 m0 c0)) := fun W hb => (hb.cell hadb).trans hck
          go_enter Tryz.func77, Tryz.ntmps77
          go_wp2
          clear hck
          go_loopw [7] (fun i wr => ∃ k : Nat, k ≤ n ∧ i = .int .i64 k ∧ Hid (rowsE m0 0 255 rows = rowsE m0 0 255 (rows.drop k)) ∧ Hid (Below w.heap.size w wr)) (fun i _ => n - (intOf i).toNat)
          case atStart => exact ⟨0, Nat.zero_le _, rfl, rfl, Below.refl _ _⟩
          case round =>
            obtain ⟨k, hk, rfl, HE2, HX⟩ := hrel
            by_cases hlt : k < n
            · have hkI : (k : Int) < (n : Int) := by omega
              have hk0 : (0 : Int) ≤ (k : Int) := by omega
              obtain ⟨ad', ha, _, hc⟩ := (HR.out.below HX.out).2 (by omega)
              obtain ⟨B, m, c', hck, hrow, hm⟩ := hc k hlt
              cases ha
              clear hc
              have hst := rowsE_step m0 0 255 rows k (by rw [HRL.out]; exact hlt)
              obtain ⟨x, hx⟩ : ∃ x, rows.getD k [] = x := ⟨_, rfl⟩
              rw [hx] at hrow hst
              have HST := Lib.hid hst
              have HROW := Lib.hid hrow
              have HXL : Hid (x.length = m) := hrow.1
              have HS2 : Hid ((fun w' : World => w'.cell? (ad.add k) = some (.slice B m c') ∧ w'.cell? ad = some (.slice B0 m0 c0)) wr.drew) := ⟨hck, HQ0.out _ HX.out.drew⟩
              have HCK : Hid (wr.drew.cell? (ad.add k) = some (.slice B m c')) := hck
              clear hck hst hx hrow
              by_cases hmm : m = m0
              · subst hmm
                have hmq : ((m : Int) != (m : Int)) = false := bne_self_eq_false' _
                go_wp2_with fail
                refine wp_region_held_drew (S := (fun w' : World => w'.cell? (ad.add k) = some (.slice B m c') ∧ w'.cell? ad = some (.slice B0 m c0))) (by kernel_rfl) ?_ ?_
                · exact HS2.out
                intro hHeld
                refine wpAnyH_take (i := 0) (v := ?_) rfl (by kernel_rfl) (by kernel_rfl) (by kernel_rfl) (fun _ _ _ h => h) (Or.inl ⟨by rfl, ?_⟩) (by assumption) ?_
                rotate_left
                · intro w hSw; (try dsimp only at hSw); go_simp; (try (with_reducible rfl))
                try simp only [List.getElem_toArray, List.getElem_cons_succ, List.getElem_cons_zero, Act.put, List.setIfInBounds_toArray, List.set_cons_zero, List.set_cons_succ]
                refine wpAnyH_take (i := 1) (v := ?_) rfl (by kernel_rfl) (by kernel_rfl) (by kernel_rfl) (fun _ _ _ h => h) (Or.inl ⟨by rfl, ?_⟩) (by assumption) ?_
                rotate_left
                · intro w hSw; (try dsimp only at hSw); go_simp; (try (with_reducible rfl))
                try simp only [List.getElem_toArray, List.getElem_cons_succ, List.getElem_cons_zero, Act.put, List.setIfInBounds_toArray, List.set_cons_zero, List.set_cons_succ]
                refine wpAnyH_take (i := 2) (v := ?_) rfl (by kernel_rfl) (by kernel_rfl) (by kernel_rfl) (fun _ _ _ h => h) (Or.inl ⟨by rfl, ?_⟩) (by assumption) ?_
                rotate_left
                · intro w hSw; (try dsimp only at hSw); go_simp; (try (with_reducible rfl))
                try simp only [List.getElem_toArray, List.getElem_cons_succ, List.getElem_cons_zero, Act.put, List.setIfInBounds_toArray, List.set_cons_zero, List.set_cons_succ]
                refine wpAnyH_take (i := 3) (v := ?_) rfl (by kernel_rfl) (by kernel_rfl) (by kernel_rfl) (fun _ _ _ h => h) (Or.inl ⟨by rfl, ?_⟩) (by assumption) ?_
                rotate_left
                · intro w hSw; (try dsimp only at hSw); go_simp; (try (with_reducible rfl))
                try simp only [List.getElem_toArray, List.getElem_cons_succ, List.getElem_cons_zero, Act.put, List.setIfInBounds_toArray, List.set_cons_zero, List.set_cons_succ]
                refine wpAnyH_take (i := 4) (v := ?_) rfl (by kernel_rfl) (by kernel_rfl) (by kernel_rfl) (fun _ _ _ h => h) (Or.inl ⟨by rfl, ?_⟩) (by assumption) ?_
                rotate_left
                · intro w hSw; (try dsimp only at hSw); go_simp; (try (with_reducible rfl))
                try simp only [List.getElem_toArray, List.getElem_cons_succ, List.getElem_cons_zero, Act.put, List.setIfInBounds_toArray, List.set_cons_zero, List.set_cons_succ]
                refine wpAnyH_take (i := 5) (v := ?_) rfl (by kernel_rfl) (by kernel_rfl) (by kernel_rfl) (fun _ _ _ h => h) (Or.inl ⟨by rfl, ?_⟩) (by assumption) ?_
                rotate_left
                · intro w hSw; (try dsimp only at hSw); go_simp; (try (with_reducible rfl))
                try simp only [List.getElem_toArray, List.getElem_cons_succ, List.getElem_cons_zero, Act.put, List.setIfInBounds_toArray, List.set_cons_zero, List.set_cons_succ]
                refine wpAnyH_take (i := 6) (v := ?_) rfl (by kernel_rfl) (by kernel_rfl) (by kernel_rfl) (fun _ _ _ h => h) (Or.inl ⟨by rfl, ?_⟩) (by assumption) ?_
                rotate_left
                · intro w hSw; (try dsimp only at hSw); go_simp; (try (with_reducible rfl))
                try simp only [List.getElem_toArray, List.getElem_cons_succ, List.getElem_cons_zero, Act.put, List.setIfInBounds_toArray, List.set_cons_zero, List.set_cons_succ]
                refine wpAnyH_take (i := 7) (v := ?_) rfl (by kernel_rfl) (by kernel_rfl) (by kernel_rfl) (fun _ _ _ h => h) (Or.inl ⟨by rfl, ?_⟩) (by assumption) ?_
                rotate_left
                · intro w hSw; (try dsimp only at hSw); go_simp; (try (with_reducible rfl))
                try simp only [List.getElem_toArray, List.getElem_cons_succ, List.getElem_cons_zero, Act.put, List.setIfInBounds_toArray, List.set_cons_zero, List.set_cons_succ]
                refine wpAnyH_take (i := 8) (v := ?_) rfl (by kernel_rfl) (by kernel_rfl) (by kernel_rfl) (fun _ _ _ h => h) (Or.inl ⟨by rfl, ?_⟩) (by assumption) ?_
                rotate_left
                · intro w hSw; (try dsimp only at hSw); go_simp; (try (with_reducible rfl))
                try simp only [List.getElem_toArray, List.getElem_cons_succ, List.getElem_cons_zero, Act.put, List.setIfInBounds_toArray, List.set_cons_zero, List.set_cons_succ]
                refine wpAnyH_take (i := 9) (v := ?_) rfl (by kernel_rfl) (by kernel_rfl) (by kernel_rfl) (fun _ _ _ h => h) (Or.inl ⟨by rfl, ?_⟩) (by assumption) ?_
                rotate_left
                · intro w hSw; (try dsimp only at hSw); go_simp; (try (with_reducible rfl))
                try simp only [List.getElem_toArray, List.getElem_cons_succ, List.getElem_cons_zero, Act.put, List.setIfInBounds_toArray, List.set_cons_zero, List.set_cons_succ]
                refine wpAnyH_done (by kernel_rfl) ?_ _
                clear hHeld HS2
                have c1 := HCK.out
                have HB2 := Lib.hid HX.out.drew
                have HROW2 := Lib.hid HROW.out.drew
                obtain ⟨W2, hW2⟩ : ∃ W, wr.drew = W := ⟨_, rfl⟩
                rw [hW2] at c1 HB2 HROW2 ⊢
                clear hW2 HCK HX HROW hmq
                go_wp2
                go_loop [8] (fun i => ∃ t : Nat, t ≤ m ∧ i = .int .i64 t ∧ Hid (fromB 0 255 x = fromB 0 255 (x.drop t))) (fun i => m - (intOf i).toNat)
                case atStart => exact ⟨0, Nat.zero_le _, rfl, rfl⟩
                case round =>
                  obtain ⟨t, ht, rfl, HF⟩ := hrel
                  by_cases htl : t < m
                  · have htI : (t : Int) < (m : Int) := by omega
                    have ht0 : (0 : Int) ≤ (t : Int) := by omega
                    obtain ⟨bd, hbd, _, hcb⟩ := HROW2.out.2 (by omega)
                    have y1 := hcb t htl
                    clear hcb
                    subst hbd
                    have hfs := fromB_step 0 255 x t (by rw [HXL.out]; exact htl)
                    obtain ⟨y, hy⟩ : ∃ y, x.getD t 0 = y := ⟨_, rfl⟩
                    rw [hy] at y1 hfs
                    have HFS := Lib.hid hfs
                    clear hfs hy
                    by_cases hin : 0 ≤ y ∧ y ≤ 255
                    · have CW : Hid (∀ W, Calls Tryz.prog 15 #[.int .i64 y, .int .i64 0, .int .i64 255] W fun e w' => e = .returned (.bool true) ∧ W = w') := fun W => by
                        have h := within_any y 0 255 W
                        rw [fromB_one.2 hin] at h
                        exact h
                      have HF2 : Hid (fromB 0 255 x = fromB 0 255 (x.drop (t + 1))) := by show _ = _; rw [HF.out, HFS.out, decide_eq_true hin.1, decide_eq_true hin.2]; rfl
                      clear hin
                      go_wp2_with fail
                      refine (CW.out _).mono ?_
                      rintro e w' ⟨rfl, rfl⟩
                      go_wp2
                      go_round
                      case rel => exact ⟨t + 1, by omega, by go_num, HF2.out⟩
                      case measure => simp [intOf]; omega
                    · have CW : Hid (∀ W, Calls Tryz.prog 15 #[.int .i64 y, .int .i64 0, .int .i64 255] W fun e w' => e = .returned (.bool false) ∧ W = w') := fun W => by
                        have h := within_any y 0 255 W
                        rw [show fromB 0 255 [y] = false by rw [Bool.eq_false_iff]; intro e; exact hin (fromB_one.1 e)] at h
                        exact h
                      have HF2 : Hid (fromB 0 255 x = false) := by
                        show _ = _
                        rw [HF.out, HFS.out]
                        by_cases h1 : 0 ≤ y
                        · rw [show decide (y ≤ 255) = false from decide_eq_false (by omega)]; simp
                        · rw [show decide ((0 : Int) ≤ y) = false from decide_eq_false (by omega)]; simp
                      clear hin
                      go_wp2_with fail
                      refine (CW.out _).mono ?_
                      rintro e w' ⟨rfl, rfl⟩
                      go_wp2
                      go_ret
                      refine ⟨?_, HB2.out⟩
                      rw [he.out, HE2.out, HST.out]
                      unfold rowE
                      rw [if_pos HXL.out, HF2.out]
                      rfl
                  · obtain rfl : m = t := by omega
                    have HF2 : Hid (rowE m 0 255 x = 0) := by
                      show _ = _
                      unfold rowE
                      rw [if_pos HXL.out, HF.out, List.drop_eq_nil_of_le (by rw [HXL.out]; exact Nat.le_refl _)]
                      rfl
                    have HE3 : Hid (rowsE m 0 255 rows = rowsE m 0 255 (rows.drop (k + 1))) := by show _ = _; rw [HE2.out, HST.out, if_pos HF2.out]
                    clear HF
                    go_wp2
                    go_roundw
                    case rel => exact ⟨k + 1, by omega, by go_num, HE3.out, HB2.out⟩
                    case measure => simp [intOf]; omega
              · have hmq : ((m : Int) != (m0 : Int)) = true := by rw [bne_iff_ne]; omega
                have HF2 : Hid (rowE m0 0 255 x = 10) := by show _ = _; unfold rowE; rw [if_neg (by rw [HXL.out]; exact hmm)]
                clear hmm
                go_wp2_with fail
                refine wp_region_held_drew (S := (fun w' : World => w'.cell? (ad.add k) = some (.slice B m c') ∧ w'.cell? ad = some (.slice B0 m0 c0))) (by kernel_rfl) ?_ ?_
                · exact HS2.out
                intro hHeld
                refine wpAnyH_take (i := 0) (v := ?_) rfl (by kernel_rfl) (by kernel_rfl) (by kernel_rfl) (fun _ _ _ h => h) (Or.inl ⟨by rfl, ?_⟩) (by assumption) ?_
                rotate_left
                · intro w hSw; (try dsimp only at hSw); go_simp; (try (with_reducible rfl))
                try simp only [List.getElem_toArray, List.getElem_cons_succ, List.getElem_cons_zero, Act.put, List.setIfInBounds_toArray, List.set_cons_zero, List.set_cons_succ]
                refine wpAnyH_take (i := 1) (v := ?_) rfl (by kernel_rfl) (by kernel_rfl) (by kernel_rfl) (fun _ _ _ h => h) (Or.inl ⟨by rfl, ?_⟩) (by assumption) ?_
                rotate_left
                · intro w hSw; (try dsimp only at hSw); go_simp; (try (with_reducible rfl))
                try simp only [List.getElem_toArray, List.getElem_cons_succ, List.getElem_cons_zero, Act.put, List.setIfInBounds_toArray, List.set_cons_zero, List.set_cons_succ]
                refine wpAnyH_take (i := 2) (v := ?_) rfl (by kernel_rfl) (by kernel_rfl) (by kernel_rfl) (fun _ _ _ h => h) (Or.inl ⟨by rfl, ?_⟩) (by assumption) ?_
                rotate_left
                · intro w hSw; (try dsimp only at hSw); go_simp; (try (with_reducible rfl))
                try simp only [List.getElem_toArray, List.getElem_cons_succ, List.getElem_cons_zero, Act.put, List.setIfInBounds_toArray, List.set_cons_zero, List.set_cons_succ]
                refine wpAnyH_take (i := 3) (v := ?_) rfl (by kernel_rfl) (by kernel_rfl) (by kernel_rfl) (fun _ _ _ h => h) (Or.inl ⟨by rfl, ?_⟩) (by assumption) ?_
                rotate_left
                · intro w hSw; (try dsimp only at hSw); go_simp; (try (with_reducible rfl))
                try simp only [List.getElem_toArray, List.getElem_cons_succ, List.getElem_cons_zero, Act.put, List.setIfInBounds_toArray, List.set_cons_zero, List.set_cons_succ]
                refine wpAnyH_take (i := 4) (v := ?_) rfl (by kernel_rfl) (by kernel_rfl) (by kernel_rfl) (fun _ _ _ h => h) (Or.inl ⟨by rfl, ?_⟩) (by assumption) ?_
                rotate_left
                · intro w hSw; (try dsimp only at hSw); go_simp; (try (with_reducible rfl))
                try simp only [List.getElem_toArray, List.getElem_cons_succ, List.getElem_cons_zero, Act.put, List.setIfInBounds_toArray, List.set_cons_zero, List.set_cons_succ]
                refine wpAnyH_take (i := 5) (v := ?_) rfl (by kernel_rfl) (by kernel_rfl) (by kernel_rfl) (fun _ _ _ h => h) (Or.inl ⟨by rfl, ?_⟩) (by assumption) ?_
                rotate_left
                · intro w hSw; (try dsimp only at hSw); go_simp; (try (with_reducible rfl))
                try simp only [List.getElem_toArray, List.getElem_cons_succ, List.getElem_cons_zero, Act.put, List.setIfInBounds_toArray, List.set_cons_zero, List.set_cons_succ]
                refine wpAnyH_take (i := 6) (v := ?_) rfl (by kernel_rfl) (by kernel_rfl) (by kernel_rfl) (fun _ _ _ h => h) (Or.inl ⟨by rfl, ?_⟩) (by assumption) ?_
                rotate_left
                · intro w hSw; (try dsimp only at hSw); go_simp; (try (with_reducible rfl))
                try simp only [List.getElem_toArray, List.getElem_cons_succ, List.getElem_cons_zero, Act.put, List.setIfInBounds_toArray, List.set_cons_zero, List.set_cons_succ]
                refine wpAnyH_take (i := 7) (v := ?_) rfl (by kernel_rfl) (by kernel_rfl) (by kernel_rfl) (fun _ _ _ h => h) (Or.inl ⟨by rfl, ?_⟩) (by assumption) ?_
                rotate_left
                · intro w hSw; (try dsimp only at hSw); go_simp; (try (with_reducible rfl))
                try simp only [List.getElem_toArray, List.getElem_cons_succ, List.getElem_cons_zero, Act.put, List.setIfInBounds_toArray, List.set_cons_zero, List.set_cons_succ]
                refine wpAnyH_take (i := 8) (v := ?_) rfl (by kernel_rfl) (by kernel_rfl) (by kernel_rfl) (fun _ _ _ h => h) (Or.inl ⟨by rfl, ?_⟩) (by assumption) ?_
                rotate_left
                · intro w hSw; (try dsimp only at hSw); go_simp; (try (with_reducible rfl))
                try simp only [List.getElem_toArray, List.getElem_cons_succ, List.getElem_cons_zero, Act.put, List.setIfInBounds_toArray, List.set_cons_zero, List.set_cons_succ]
                refine wpAnyH_take (i := 9) (v := ?_) rfl (by kernel_rfl) (by kernel_rfl) (by kernel_rfl) (fun _ _ _ h => h) (Or.inl ⟨by rfl, ?_⟩) (by assumption) ?_
                rotate_left
                · intro w hSw; (try dsimp only at hSw); go_simp; (try (with_reducible rfl))
                try simp only [List.getElem_toArray, List.getElem_cons_succ, List.getElem_cons_zero, Act.put, List.setIfInBounds_toArray, List.set_cons_zero, List.set_cons_succ]
                refine wpAnyH_done (by kernel_rfl) ?_ _
                clear hHeld HS2
                go_wp2
                go_ret
                refine ⟨?_, HX.out.drew⟩
                rw [he.out, HE2.out, HST.out, HF2.out]
                rfl
            · obtain rfl : n = k := by omega
              go_wp2
              go_ret
              refine ⟨?_, HX.out⟩
              rw [he.out, HE2.out, List.drop_eq_nil_of_le (by rw [HRL.out]; exact Nat.le_refl _)]
              rfl

theorem refStripErr_any (A : Option Addr) (n c : Nat) (rows : List (List Int)) (w : World) (hr : RdG w A n rows) (hn : n ≤ 9223372036854775806) :
    Calls Tryz.prog 48 #[.slice A n c] w fun e w' => e = .returned (.int .i64 (gridE 40 12 rows)) ∧ Below w.heap.size w w' := by
  have C0 := Lib.hid (refGridErr_any A n c 40 12 rows w hr hn)
  clear hr
  go_enter Tryz.func48, Tryz.ntmps48
  go_wp2_with fail
  refine C0.out.mono ?_
  rintro e w1 ⟨rfl, hb⟩
  have HB := Lib.hid hb
  clear hb
  go_wp2
  go_ret
  exact ⟨rfl, HB.out⟩

end Go.Proofs.YtjjflbnopphciaaGreatDoor

namespace Go.Proofs.YtjjflbnopphciaaGreatDoor
open Go.RowKit

theorem jmpTo_step (xs : List Int) (limit : Int) (q : Nat) : jmpTo xs limit (q + 1 + 1) = if jmpB xs limit (q + 1) = true then jmpTo xs limit (q + 1) ++ [((q + 1 : Nat) : Int)] else jmpTo xs limit (q + 1) := by
  show (if (q + 1) ≠ 0 ∧ jmpB xs limit (q + 1) = true then _ else _) = _
  by_cases h : jmpB xs limit (q + 1) = true
  · rw [if_pos ⟨by omega, h⟩, if_pos h]
  · rw [if_neg (fun h' => h h'.2), if_neg h]
theorem jmpTo_one (xs : List Int) (limit : Int) : jmpTo xs limit 1 = [] := rfl

end Go.Proofs.YtjjflbnopphciaaGreatDoor

namespace Go.Proofs.YtjjflbnopphciaaGreatDoor
open Go.RowKit

end Go.Proofs.YtjjflbnopphciaaGreatDoor

namespace Go.Proofs.YtjjflbnopphciaaGreatDoor
open Go.RowKit

def turnsE1 : List (List Int) → Int
  | [] => 0
  | r :: rs => if turnErr r = 0 then turnsE1 rs else turnErr r
theorem turnsE1_step (rows : List (List Int)) (k : Nat) (hk : k < rows.length) :
    turnsE1 (rows.drop k) = if turnErr (rows.getD k []) = 0 then turnsE1 (rows.drop (k + 1)) else turnErr (rows.getD k []) := by
  rw [List.drop_eq_getElem_cons hk]
  simp only [turnsE1, List.getD_eq_getElem?_getD, List.getElem?_eq_getElem hk, Option.getD_some]
/-- The error of turns. -/
def turnsE (rows : List (List Int)) : Int := if 20 < rows.length then 8 else turnsE1 rows
theorem turnsE1_ok : ∀ {rows : List (List Int)}, turnsE1 rows = 0 → ∀ r ∈ rows, turnErr r = 0
  | [], _, r, hr => by cases hr
  | r0 :: rs, h, r, hr => by
    unfold turnsE1 at h
    by_cases h0 : turnErr r0 = 0
    · rw [if_pos h0] at h
      rcases List.mem_cons.1 hr with rfl | h1
      · exact h0
      · exact turnsE1_ok h r h1
    · rw [if_neg h0] at h; exact absurd h h0
theorem turnErr_ok {xs : List Int} (h : turnErr xs = 0) : Small xs ∧ 0 < xs.length ∧ xs.length ≤ 200 := by
  unfold turnErr at h
  by_cases hp : posE xs = 0
  · rw [if_pos hp] at h
    obtain ⟨hl, hs⟩ := pos_ok hp
    refine ⟨hs, ?_, hl⟩
    by_cases h0 : xs.length = 0
    · rw [if_pos h0] at h; omega
    · omega
  · rw [if_neg hp] at h; exact absurd h hp
theorem turnsE_ok {rows : List (List Int)} (h : turnsE rows = 0) : rows.length ≤ 20 ∧ ∀ k, k < rows.length → Small (rows.getD k []) ∧ 0 < (rows.getD k []).length ∧ (rows.getD k []).length ≤ 200 := by
  unfold turnsE at h
  by_cases h0 : 20 < rows.length
  · rw [if_pos h0] at h; omega
  · rw [if_neg h0] at h
    refine ⟨by omega, fun k hk => turnErr_ok (turnsE1_ok h _ ?_)⟩
    rw [List.getD_eq_getElem?_getD, List.getElem?_eq_getElem hk]
    exact List.getElem_mem hk

/-- The breaks between turns. -/
def brkD (rows : List (List Int)) (i : Nat) : Int := (rows.getD i []).getD 0 0 - (rows.getD (i - 1) []).getD ((rows.getD (i - 1) []).length - 1) 0
def brkB (rows : List (List Int)) (limit : Int) (i : Nat) : Bool := !fromB (-limit) limit [brkD rows i]
def brkTo (rows : List (List Int)) (limit : Int) : Nat → List Int
  | 0 => []
  | k + 1 => if k ≠ 0 ∧ brkB rows limit k = true then brkTo rows limit k ++ [(k : Int)] else brkTo rows limit k
def brkE (rows : List (List Int)) (limit : Int) : Int := if turnsE rows = 0 then limE limit else turnsE rows
def brkL (rows : List (List Int)) (limit : Int) : List Int := if brkE rows limit = 0 then brkTo rows limit rows.length else []
theorem brkTo_length (rows : List (List Int)) (limit : Int) : ∀ k, (brkTo rows limit k).length ≤ k
  | 0 => Nat.le_refl _
  | k + 1 => by
    have := brkTo_length rows limit k
    unfold brkTo
    split
    · rw [List.length_append]; simp; omega
    · omega
theorem brkTo_step (rows : List (List Int)) (limit : Int) (q : Nat) : brkTo rows limit (q + 1 + 1) = if brkB rows limit (q + 1) = true then brkTo rows limit (q + 1) ++ [((q + 1 : Nat) : Int)] else brkTo rows limit (q + 1) := by
  show (if (q + 1) ≠ 0 ∧ brkB rows limit (q + 1) = true then _ else _) = _
  by_cases h : brkB rows limit (q + 1) = true
  · rw [if_pos ⟨by omega, h⟩, if_pos h]
  · rw [if_neg (fun h' => h h'.2), if_neg h]

/-- The slice '.slice A n c' reads as the rows; a nil row is empty. -/
def RdGN (w : World) (A : Option Addr) (n : Nat) (rows : List (List Int)) : Prop :=
  rows.length = n ∧ (0 < n → ∃ ad, A = some ad ∧ ad.block < w.heap.size ∧ ∀ j, j < n → ∃ B m c, w.cell? (ad.add j) = some (.slice B m c) ∧ RdI w B m (rows.getD j []) ∧ m ≤ 9223372036854775806 ∧ (B = none → m = 0 ∧ c = 0))
theorem RdGN.below {w w' : World} {A : Option Addr} {n : Nat} {rows : List (List Int)} (h : RdGN w A n rows) (hb : Below w.heap.size w w') : RdGN w' A n rows := by
  refine ⟨h.1, fun hn => ?_⟩
  obtain ⟨ad, e, hlt, hc⟩ := h.2 hn
  refine ⟨ad, e, Nat.lt_of_lt_of_le hlt hb.size, fun j hj => ?_⟩
  obtain ⟨B, m, c, h1, h2, h3⟩ := hc j hj
  exact ⟨B, m, c, (hb.cell (by rw [addBlock]; exact hlt)).trans h1, h2.below hb, h3⟩

/-- .. however long its rows are. -/
def RdGo (w : World) (A : Option Addr) (n : Nat) (rows : List (List Int)) : Prop :=
  rows.length = n ∧ (0 < n → ∃ ad, A = some ad ∧ ad.block < w.heap.size ∧ ∀ j, j < n → ∃ B m c, w.cell? (ad.add j) = some (.slice B m c) ∧ RdI w B m (rows.getD j []) ∧ (B = none → m = 0 ∧ c = 0))
theorem RdGo.below {w w' : World} {A : Option Addr} {n : Nat} {rows : List (List Int)} (h : RdGo w A n rows) (hb : Below w.heap.size w w') : RdGo w' A n rows := by
  refine ⟨h.1, fun hn => ?_⟩
  obtain ⟨ad, e, hlt, hc⟩ := h.2 hn
  refine ⟨ad, e, Nat.lt_of_lt_of_le hlt hb.size, fun j hj => ?_⟩
  obtain ⟨B, m, c, h1, h2, h3⟩ := hc j hj
  exact ⟨B, m, c, (hb.cell (by rw [addBlock]; exact hlt)).trans h1, h2.below hb, h3⟩
theorem RdGo.full {w : World} {A : Option Addr} {n : Nat} {rows : List (List Int)} (h : RdGo w A n rows) (hm : ∀ j, j < n → (rows.getD j []).length ≤ 203) : RdGN w A n rows := by
  refine ⟨h.1, fun hn => ?_⟩
  obtain ⟨ad, e, hlt, hc⟩ := h.2 hn
  refine ⟨ad, e, hlt, fun j hj => ?_⟩
  obtain ⟨B, m, c, h1, h2, h3⟩ := hc j hj
  exact ⟨B, m, c, h1, h2, by have := hm j hj; rw [h2.1] at this; omega, h3⟩

/-- A slice of slices of the call's own. -/
def OwnL (w' : World) (base : Nat) (p : Value) (k : Nat) (rows : List (List Int)) : Prop :=
  ∃ vs : List Value, w'.ownsRow base 22 1 p k vs ∧ ∀ j, j < k → ∃ v, vs[j]? = some v ∧ w'.ownsRow base 3 1 v (rows.getD j []).length ((rows.getD j []).map (Value.int .i64))
theorem own_apart {w : World} {base base' : Nat} {v p : Value} {n k : Nat} {xs vs : List Value} (h : w.ownsRow base 3 1 v n xs) (h' : w.ownsRow base' 22 1 p k vs) : v.ownBlock = none ∨ v.ownBlock ≠ p.ownBlock := by
  rcases h.2 with ⟨rfl, _⟩ | ⟨g, cap, cur, rfl, _, hg, _⟩
  · exact .inl rfl
  · right
    rcases h'.2 with ⟨rfl, _⟩ | ⟨g', cap', cur', rfl, _, hg', _⟩
    · simp [Value.ownBlock]
    · simp only [Value.ownBlock]
      intro e
      injection e with e
      subst e
      rw [hg] at hg'
      injection hg' with h1
      injection h1 with _ h2
      exact absurd h2 (by decide)
theorem OwnL.read {w : World} {base : Nat} {p : Value} {n : Nat} {rows : List (List Int)} (h : OwnL w base p n rows) (hl : rows.length = n) (hm : ∀ j, j < n → (rows.getD j []).length ≤ 203) :
    ∃ A c, p = .slice A n c ∧ RdGN w A n rows := by
  obtain ⟨vs, h1, h2⟩ := h
  have hlt := h1.lt
  have hcs : ∀ {g : Nat}, p.ownBlock = some g → ∀ j u, vs[j]? = some u → w.cell? ((⟨g, 0, none⟩ : Addr).add j) = some u := fun hg => h1.cells hg
  rcases h1.2 with ⟨rfl, rfl⟩ | ⟨g, cap, cur, rfl, _⟩
  · exact ⟨none, 0, rfl, hl, fun h0 => absurd h0 (by omega)⟩
  · refine ⟨_, cap, rfl, hl, fun _ => ⟨_, rfl, (hlt g rfl).2, fun j hj => ?_⟩⟩
    obtain ⟨v, hv, ho⟩ := h2 j hj
    obtain ⟨B, c, rfl, _, hr, hn⟩ := rd_ownN ho
    exact ⟨B, _, c, hcs rfl j _ hv, hr, by have := hm j hj; omega, hn⟩

end Go.Proofs.YtjjflbnopphciaaGreatDoor

namespace Go.Proofs.YtjjflbnopphciaaGreatDoor
open Go.RowKit

/-- Rows are not many more, and not much longer, than numbers. -/
def gridB (R C : Nat) (rows : List (List Int)) : Bool := decide (rows.length ≤ R + 2) && rows.all fun r => decide (r.length ≤ C + 2)
theorem gridB_drop (C : Nat) (rows : List (List Int)) (k : Nat) (h : k < rows.length) : ((rows.drop k).all fun r => decide (r.length ≤ C + 2)) = (decide ((rows.getD k []).length ≤ C + 2) && (rows.drop (k + 1)).all fun r => decide (r.length ≤ C + 2)) := by
  rw [List.drop_eq_getElem_cons h]
  simp only [List.all_cons, List.getD_eq_getElem?_getD, List.getElem?_eq_getElem h, Option.getD_some]

set_option maxHeartbeats 1000000 in
theorem refTaskErr_any (A : Option Addr) (n c : Nat) (rows : List (List Int)) (b : Int) (w : World) (hr : RdG w A n rows) (hn : n ≤ 9223372036854775806) :
    Calls Tryz.prog 19 #[.agg #[.slice A n c, .int .i64 b]] w fun e w' => e = .returned (.int .i64 (taskE rows b)) ∧ Below w.heap.size w w' := by
  have hb : Below w.heap.size w (w.alloc (.cells #[.slice A n c, .int .i64 b] 55)) := (Below.refl _ _).alloc (Nat.le_refl _) _
  have C0 := Lib.hid (refStripErr_any A n c rows _ (hr.below hb) hn)
  have hb1 : (w.alloc (.cells #[.slice A n c, .int .i64 b] 55)).cell? ⟨w.heap.size, 1, none⟩ = some (.int .i64 b) := by simp [go_sem]
  have HK : Hid (∀ W, Below (w.alloc (.cells #[.slice A n c, .int .i64 b] 55)).heap.size (w.alloc (.cells #[.slice A n c, .int .i64 b] 55)) W → W.cell? ⟨w.heap.size, 1, none⟩ = some (.int .i64 b)) := fun W h => (h.cell (p := ⟨w.heap.size, 1, none⟩) (by simp)).trans hb1
  have HB := Lib.hid hb
  have CW := Lib.hid (fun W => within_any b 0 1000 W)
  have HT : Hid (taskE rows b = if gridE 40 12 rows = 0 then (if fromB 0 1000 [b] = true then 0 else 2) else gridE 40 12 rows) := rfl
  obtain ⟨g, hg⟩ : ∃ g, gridE 40 12 rows = g := ⟨_, rfl⟩
  obtain ⟨q, hq⟩ : ∃ q, fromB 0 1000 [b] = q := ⟨_, rfl⟩
  rw [hg] at C0 HT
  rw [hq] at CW HT
  clear hr hb hb1 hg hq
  by_cases hg0 : g = 0
  · subst hg0
    cases q
    all_goals
      go_enter Tryz.func19, Tryz.ntmps19
      go_wp2_with fail
      refine C0.out.mono ?_
      rintro e w1 ⟨rfl, hb1⟩
      have k1 := HK.out w1 hb1
      have HB1 := Lib.hid (HB.out.trans (hb1.mono HB.out.size))
      clear hb1
      go_wp2_with fail
      refine (CW.out _).mono ?_
      rintro e w' ⟨rfl, rfl⟩
      go_wp2
      go_ret
      exact ⟨by rw [HT.out]; rfl, HB1.out⟩
  · have hgb : (g != 0) = true := by simpa using hg0
    have HT2 : Hid (taskE rows b = g) := by show _ = _; rw [HT.out, if_neg hg0]
    clear hg0
    go_enter Tryz.func19, Tryz.ntmps19
    go_wp2_with fail
    refine C0.out.mono ?_
    rintro e w1 ⟨rfl, hb1⟩
    have HB1 := Lib.hid (HB.out.trans (hb1.mono HB.out.size))
    clear hb1
    go_wp2
    go_ret
    exact ⟨by rw [HT2.out]; rfl, HB1.out⟩

end Go.Proofs.YtjjflbnopphciaaGreatDoor

namespace Go.Proofs.YtjjflbnopphciaaGreatDoor
open Go.RowKit

set_option maxRecDepth 100000 in
set_option maxHeartbeats 2000000 in
theorem copyLists_any (A : Option Addr) (n c : Nat) (rows : List (List Int)) (w : World) (hr : RdGN w A n rows) (hn : n ≤ 1000000) (hm : ∀ j, j < n → (rows.getD j []).length ≤ 203) :
    Calls Tryz.prog 25 #[.slice A n c] w fun e w' => (∃ v, e = .returned v ∧ OwnL w' w.heap.size v n rows) ∧ Below w.heap.size w w' := by
  have HR := Lib.hid hr; clear hr
  have HM : Hid (True ∧ ∀ j, j < n → (rows.getD j []).length ≤ 203) := ⟨trivial, hm⟩
  clear hm
  obtain ⟨i0, hi0, hz0, hz1, hz2⟩ := info_parts sliceInfo
  go_enter Tryz.func25, Tryz.ntmps25
  go_wp2
  go_loopw [3, 4] (fun p i wr => ∃ k : Nat, k ≤ n ∧ i = .int .i64 k ∧ Hid (OwnL wr w.heap.size p k rows ∧ Below w.heap.size w wr)) (fun _ i _ => n - (intOf i).toNat)
  case atStart => exact ⟨0, Nat.zero_le _, rfl, ⟨[], World.ownsRow_nil _ _ _ _, fun j hj => absurd hj (by omega)⟩, Below.refl _ _⟩
  case round =>
    obtain ⟨k, hk, rfl, HI⟩ := hrel
    by_cases hlt : k < n
    · obtain ⟨ad, ha, hadb, hc⟩ := HR.out.2 (by omega)
      obtain ⟨B, m, c', hck, hrow, hm, hBn⟩ := hc k hlt
      clear hc
      subst ha
      have hck' := (HI.out.2.cell (p := ad.add k) (by rw [addBlock]; exact hadb)).trans hck
      have hm2 := HM.out.2 k hlt
      have HXM := Lib.hid hrow.1
      have hmm : m ≤ 1000000 := by rw [← HXM.out]; omega
      have C := Lib.hid (copyInts_any B m c' (rows.getD k []) _ hBn (hrow.below HI.out.2) hmm)
      clear hrow hck hBn hm2 hm
      have hkI : (k : Int) < (n : Int) := by omega
      go_wp2_with fail
      refine C.out.mono ?_
      rintro e w2 ⟨⟨v, rfl, ho⟩, hb⟩
      obtain ⟨vs, hvs, hrs⟩ := HI.out.1
      have HO2 := Lib.hid (ownLater hvs hb)
      obtain ⟨Bv, cv, rfl, _, _, _⟩ := rd_ownN ho
      have HRS : Hid (True ∧ ∀ j, j < k → ∃ v, vs[j]? = some v ∧ w2.ownsRow w.heap.size 3 1 v (rows.getD j []).length ((rows.getD j []).map (Value.int .i64))) := ⟨trivial, fun j hj => by
        obtain ⟨v, h1, h2⟩ := hrs j hj
        exact ⟨v, h1, ownLater h2 hb⟩⟩
      have HV := Lib.hid (ownMono ho HI.out.2.size)
      have HB2 := Lib.hid (HI.out.2.trans (hb.mono HI.out.2.size))
      clear hvs hrs ho hb C
      have hzW : w.heap.size ≤ w2.heap.size := HB2.out.size
      go_wp2_with (at_builtin; refine wpList_append_own _ rfl (.tmp 11) (.tmp 17) 39 rfl w.heap.size 22 i0 _ 1 24 Tryz.underlying39 hi0 hz0 hz1 hz2 rfl (by decide) _ _ _ rfl (HO2.out.alloc _) ⟨w2.heap.size, 0, none⟩ 1 1 [_] rfl rfl (cell_one_new _ _ _) (by simp [Value.oneCell']) (by unfold maxLen; omega) (by omega) (by simp; omega) ?_)
      intro v' w4 hown' hgrow _
      have HFIN : Hid (OwnL w4 w.heap.size v' (k + 1) rows ∧ Below w.heap.size w w4) := by
        refine ⟨⟨_, hown', fun j hj => ?_⟩, (HB2.out.alloc HB2.out.size _).grown hgrow (by simp; omega) (fun z e => (HO2.out.lt z e).1)⟩
        have hlen : vs.length = k := by have := HO2.out.1; simpa using this
        by_cases hjk : j < k
        · obtain ⟨v, h1, h2⟩ := HRS.out.2 j hjk
          exact ⟨v, by rw [List.getElem?_append_left (by omega)]; exact h1, (h2.alloc _).kept hgrow (own_apart h2 HO2.out)⟩
        · obtain rfl : j = k := by omega
          exact ⟨_, by rw [List.getElem?_append_right (by omega), hlen]; simp, (HV.out.alloc _).kept hgrow (own_apart HV.out HO2.out)⟩
      clear hown' hgrow
      go_wp2
      go_roundw
      case rel => exact ⟨k + 1, by omega, by go_num, HFIN.out⟩
      case measure => simp [intOf]; omega
    · obtain rfl : n = k := by omega
      go_wp2
      go_ret
      exact ⟨⟨_, rfl, HI.out.1⟩, HI.out.2⟩

end Go.Proofs.YtjjflbnopphciaaGreatDoor

namespace Go.Proofs.YtjjflbnopphciaaGreatDoor
open Go.RowKit

theorem OwnL.far {w : World} {base : Nat} {p : Value} {n : Nat} {rows : List (List Int)} (h : OwnL w base p n rows) (a : Addr) (u : Value) (ha : a.block < base) : OwnL (w.setCell a u) base p n rows := by
  obtain ⟨vs, h1, h2⟩ := h
  have hk : ∀ {t k : Nat} {x : Value} {xs : List Value}, w.ownsRow base t 1 x k xs → (w.setCell a u).ownsRow base t 1 x k xs := fun {t k x xs} ho => ho.kept (grownBy_setCellG w a u) (by
    cases hb : x.ownBlock with
    | none => exact .inl rfl
    | some g => exact .inr (by intro e; injection e with e; have := (ho.lt g hb).1; omega))
  exact ⟨vs, hk h1, fun j hj => by obtain ⟨x, a1, a2⟩ := h2 j hj; exact ⟨x, a1, hk a2⟩⟩

set_option maxRecDepth 100000 in
set_option maxHeartbeats 2000000 in
theorem copyTask_any (A : Option Addr) (n c : Nat) (rows : List (List Int)) (b : Int) (w : World) (hr : RdGN w A n rows) (hn : n ≤ 1000000) (hm : ∀ j, j < n → (rows.getD j []).length ≤ 203) :
    Calls Tryz.prog 21 #[.agg #[.slice A n c, .int .i64 b]] w fun e w' => (∃ A' c', e = .returned (.agg #[.slice A' n c', .int .i64 b]) ∧ RdGN w' A' n rows) ∧ Below w.heap.size w w' := by
  have HRL : Hid (rows.length = n) := hr.1
  have HM := Lib.hid hm
  have hb0 : Below w.heap.size w ((w.alloc (.cells #[.slice A n c, .int .i64 b] 55)).alloc (.cells #[.slice none 0 0, .int .i64 0] 55)) := ((Below.refl _ _).alloc (Nat.le_refl _) _).alloc (by simp) _
  have CC := Lib.hid (copyLists_any A n c rows _ (hr.below hb0) hn hm)
  have HB0 := Lib.hid hb0
  clear hr hb0 hm
  go_enter Tryz.func21, Tryz.ntmps21
  go_wp2_with fail
  refine CC.out.mono ?_
  rintro e w1 ⟨⟨v, rfl, ho⟩, hb⟩
  have c0 : w1.cell? ⟨w.heap.size, 0, none⟩ = some (.slice A n c) := (hb.cell (p := ⟨w.heap.size, 0, none⟩) (by simp only [World.size_alloc]; omega)).trans (by simp [go_sem])
  have c1 : w1.cell? ⟨w.heap.size, 1, none⟩ = some (.int .i64 b) := (hb.cell (p := ⟨w.heap.size, 1, none⟩) (by simp only [World.size_alloc]; omega)).trans (by simp [go_sem])
  have d0 : w1.cell? ⟨w.heap.size + 1, 0, none⟩ = some (.slice none 0 0) := (hb.cell (p := ⟨w.heap.size + 1, 0, none⟩) (by simp only [World.size_alloc]; omega)).trans (by simp [go_sem])
  have d1 : w1.cell? ⟨w.heap.size + 1, 1, none⟩ = some (.int .i64 0) := (hb.cell (p := ⟨w.heap.size + 1, 1, none⟩) (by simp only [World.size_alloc]; omega)).trans (by simp [go_sem])
  have f0 : w1.frozen? ⟨w.heap.size, 0, none⟩ = false := (hb.frozen (p := ⟨w.heap.size, 0, none⟩) (by simp only [World.size_alloc]; omega)).trans (by simp [go_sem])
  have f2 : w1.frozen? ⟨w.heap.size + 1, 0, none⟩ = false := (hb.frozen (p := ⟨w.heap.size + 1, 0, none⟩) (by simp only [World.size_alloc]; omega)).trans (by simp [go_sem])
  have f3 : w1.frozen? ⟨w.heap.size + 1, 1, none⟩ = false := (hb.frozen (p := ⟨w.heap.size + 1, 1, none⟩) (by simp only [World.size_alloc]; omega)).trans (by simp [go_sem])
  have HO := Lib.hid ho
  have HB1 := Lib.hid hb
  obtain ⟨A', c', rfl, _⟩ := ho.read HRL.out HM.out
  clear ho hb CC
  go_wp2
  have h1 := ((HO.out.far ⟨w.heap.size, 0, none⟩ (.slice A' n c') (by simp only [World.size_alloc]; omega)).far ⟨w.heap.size + 1, 0, none⟩ (.slice A' n c') (by simp only [World.size_alloc]; omega)).far ⟨w.heap.size + 1, 1, none⟩ (.int .i64 b) (by simp only [World.size_alloc]; omega)
  obtain ⟨A2, c2, e2, h2⟩ := h1.read HRL.out HM.out
  cases e2
  have h3 := (((HB0.out.trans (HB1.out.mono HB0.out.size)).setCell (p := ⟨w.heap.size, 0, none⟩) (Nat.le_refl _) (.slice A' n c')).setCell (p := ⟨w.heap.size + 1, 0, none⟩) (Nat.le_succ _) (.slice A' n c')).setCell (p := ⟨w.heap.size + 1, 1, none⟩) (Nat.le_succ _) (.int .i64 b)
  refine bodyPost_ret (v := .agg #[.slice A' n c', .int .i64 b]) (by simp [results, Tryz.results21, go_sem, c0, c1, d0, d1]) rfl ⟨⟨A', c', rfl, h2⟩, h3⟩

set_option maxRecDepth 100000 in
set_option maxHeartbeats 2000000 in
theorem copyImage_any (A : Option Addr) (n c : Nat) (rows : List (List Int)) (w : World) (hr : RdGN w A n rows) (hn : n ≤ 1000000) (hm : ∀ j, j < n → (rows.getD j []).length ≤ 203) :
    Calls Tryz.prog 18 #[.agg #[.slice A n c]] w fun e w' => (∃ A' c', e = .returned (.agg #[.slice A' n c']) ∧ RdGN w' A' n rows) ∧ Below w.heap.size w w' := by
  have HRL : Hid (rows.length = n) := hr.1
  have HM := Lib.hid hm
  have hb0 : Below w.heap.size w ((w.alloc (.cells #[.slice A n c] 41)).alloc (.cells #[.slice none 0 0] 41)) := ((Below.refl _ _).alloc (Nat.le_refl _) _).alloc (by simp) _
  have CC := Lib.hid (copyLists_any A n c rows _ (hr.below hb0) hn hm)
  have HB0 := Lib.hid hb0
  clear hr hb0 hm
  go_enter Tryz.func18, Tryz.ntmps18
  go_wp2_with fail
  refine CC.out.mono ?_
  rintro e w1 ⟨⟨v, rfl, ho⟩, hb⟩
  have c0 : w1.cell? ⟨w.heap.size, 0, none⟩ = some (.slice A n c) := (hb.cell (p := ⟨w.heap.size, 0, none⟩) (by simp only [World.size_alloc]; omega)).trans (by simp [go_sem])
  have d0 : w1.cell? ⟨w.heap.size + 1, 0, none⟩ = some (.slice none 0 0) := (hb.cell (p := ⟨w.heap.size + 1, 0, none⟩) (by simp only [World.size_alloc]; omega)).trans (by simp [go_sem])
  have f0 : w1.frozen? ⟨w.heap.size, 0, none⟩ = false := (hb.frozen (p := ⟨w.heap.size, 0, none⟩) (by simp only [World.size_alloc]; omega)).trans (by simp [go_sem])
  have f2 : w1.frozen? ⟨w.heap.size + 1, 0, none⟩ = false := (hb.frozen (p := ⟨w.heap.size + 1, 0, none⟩) (by simp only [World.size_alloc]; omega)).trans (by simp [go_sem])
  have HO := Lib.hid ho
  have HB1 := Lib.hid hb
  obtain ⟨A', c', rfl, _⟩ := ho.read HRL.out HM.out
  clear ho hb CC
  go_wp2
  have h1 := HO.out.far ⟨w.heap.size + 1, 0, none⟩ (.slice A' n c') (by simp only [World.size_alloc]; omega)
  obtain ⟨A2, c2, e2, h2⟩ := h1.read HRL.out HM.out
  cases e2
  have h3 := (HB0.out.trans (HB1.out.mono HB0.out.size)).setCell (p := ⟨w.heap.size + 1, 0, none⟩) (Nat.le_succ _) (.slice A' n c')
  refine bodyPost_ret (v := .agg #[.slice A' n c']) (by simp [results, Tryz.results18, go_sem, c0, d0]) rfl ⟨⟨A', c', rfl, h2⟩, h3⟩

end Go.Proofs.YtjjflbnopphciaaGreatDoor

namespace Go.Proofs.YtjjflbnopphciaaGreatDoor
open Go.RowKit

end Go.Proofs.YtjjflbnopphciaaGreatDoor

namespace Go.Proofs.YtjjflbnopphciaaGreatDoor
open Go.RowKit

end Go.Proofs.YtjjflbnopphciaaGreatDoor

namespace Go.Proofs.YtjjflbnopphciaaGreatDoor
open Go.RowKit Go.Shelf
attribute [local go_sem] Oper.semAt_some

set_option maxRecDepth 100000 in
set_option maxHeartbeats 4000000 in
theorem cheapest_neg (sv : Value) (b : Int) (cols c : Nat) (A : Option Addr) (cap : Nat) (costs : List Int) (w : World) (hcol : c < cols) (hcb : cols ≤ 1000000) (hr : RdI w A cols costs)
    (hb : 0 ≤ b ∧ b ≤ 1000000) (hcs : ∀ x ∈ costs, -1000000000000000000 ≤ x ∧ x ≤ 1000000000000000000) :
    Calls Tryz.prog 82 #[.agg #[sv, .int .i64 b, .int .i64 cols], .slice A cols cap, .int .i64 c] w fun e w' =>
      e = .returned (.tuple #[.int .i64 (chp costs b c cols).1, .int .i64 (chp costs b c cols).2]) ∧ Below w.heap.size w w' := by
  have HR := Lib.hid hr
  have HC := Lib.hid hcs
  have HB0 := Lib.hid hb
  clear hr hcs hb
  refine (callsIn_wide (n := 6)).1 ?_
  refine callsIn_of_wp_marks Tryz.func82 rfl trivial ?_ rfl
  simp only [Tryz.ntmps82, List.size_toArray, List.length_cons, List.length_nil, Nat.reduceAdd, Nat.reduceSub, Array.replicate_succ, Array.replicate_zero, List.push_toArray, List.append_toArray, List.nil_append, List.cons_append]
  gi_wp2_with (refine ⟨trivial, ?_⟩; gi_at_call 96; refine (neighbours_in Fence.wide _ trivial rfl _ _ _ _ _).mono ?_; rintro e w' ⟨rfl, rfl⟩)
  obtain ⟨W0, hW0⟩ : ∃ W0, (((((((w.alloc (.cells #[sv, .int .i64 b, .int .i64 cols] 104)).alloc (.cells #[.slice A cols cap] 22)).alloc (.cells #[.int .i64 c] 3)).alloc (.cells #[.int .i64 0] 3)).alloc (.cells #[.int .i64 9223372036854775807] 3)).alloc (.cells #[sv, .int .i64 b, .int .i64 cols] 104)).alloc (.cells #[.int .i64 c] 3)) = W0 := ⟨_, rfl⟩
  rw [hW0]
  have hsz : W0.heap.size = w.heap.size + 7 := by rw [← hW0]; (simp [go_sem]; done)
  have c00 : W0.cell? ⟨w.heap.size, 0, none⟩ = some sv := by rw [← hW0]; (simp [go_sem]; done)
  have c01 : W0.cell? ⟨w.heap.size, 1, none⟩ = some (.int .i64 b) := by rw [← hW0]; (simp [go_sem]; done)
  have c02 : W0.cell? ⟨w.heap.size, 2, none⟩ = some (.int .i64 cols) := by rw [← hW0]; (simp [go_sem]; done)
  have c1 : W0.cell? ⟨w.heap.size + 1, 0, none⟩ = some (.slice A cols cap) := by rw [← hW0]; (simp [go_sem]; done)
  have c2 : W0.cell? ⟨w.heap.size + 1 + 1, 0, none⟩ = some (.int .i64 c) := by rw [← hW0]; (simp [go_sem]; done)
  have c3 : W0.cell? ⟨w.heap.size + 1 + 1 + 1, 0, none⟩ = some (.int .i64 0) := by rw [← hW0]; (simp [go_sem]; done)
  have c4 : W0.cell? ⟨w.heap.size + 1 + 1 + 1 + 1, 0, none⟩ = some (.int .i64 9223372036854775807) := by rw [← hW0]; (simp [go_sem]; done)
  have f3 : W0.frozen? ⟨w.heap.size + 1 + 1 + 1, 0, none⟩ = false := by rw [← hW0]; (simp [go_sem]; done)
  have f4 : W0.frozen? ⟨w.heap.size + 1 + 1 + 1 + 1, 0, none⟩ = false := by rw [← hW0]; (simp [go_sem]; done)
  have c5 : W0.cell? ⟨w.heap.size + 1 + 1 + 1 + 1 + 1, 2, none⟩ = some (.int .i64 cols) := by rw [← hW0]; (simp [go_sem]; done)
  have c6 : W0.cell? ⟨w.heap.size + 1 + 1 + 1 + 1 + 1 + 1, 0, none⟩ = some (.int .i64 c) := by rw [← hW0]; (simp [go_sem]; done)
  have hbel : Below w.heap.size w W0 := by rw [← hW0]; exact (((((((Below.refl _ w).alloc (by simp) _).alloc (by simp) _).alloc (by simp; omega) _).alloc (by simp; omega) _).alloc (by simp; omega) _).alloc (by simp; omega) _).alloc (by simp; omega) _
  refine wpIn_rangeFunc_ownF rfl (by omega) (gf := 114) (lb := #[.pointer (some ⟨w.heap.size + 1 + 1 + 1 + 1 + 1 + 1, 0, none⟩), .pointer (some ⟨w.heap.size + 1 + 1 + 1 + 1 + 1, 0, none⟩)]) rfl trivial (enters_of Tryz.func114 (by kernel_rfl) rfl)
    (nbrs_stops Fence.wide _ trivial rfl (by omega) (w.heap.size + 1 + 1 + 1 + 1 + 1 + 1) (w.heap.size + 1 + 1 + 1 + 1 + 1) c cols hcol hcb W0 (by omega) (by omega) c6 c5) (fun h k => h.trans k) (fun W l o o' hl _ _ _ => Kp2.putObj W l o' (by omega) (by omega)) (Below.refl _ _) (fun _ => rfl)
    (fun pre W => (W.cell? ⟨w.heap.size, 0, none⟩ = some sv ∧ W.cell? ⟨w.heap.size, 1, none⟩ = some (.int .i64 b) ∧ W.cell? ⟨w.heap.size, 2, none⟩ = some (.int .i64 cols) ∧ W.cell? ⟨w.heap.size + 1, 0, none⟩ = some (.slice A cols cap) ∧ W.cell? ⟨w.heap.size + 1 + 1, 0, none⟩ = some (.int .i64 c) ∧ W.cell? ⟨w.heap.size + 1 + 1 + 1, 0, none⟩ = some (.int .i64 (chFrom costs b c (pre.map (·.1))).1) ∧ W.cell? ⟨w.heap.size + 1 + 1 + 1 + 1, 0, none⟩ = some (.int .i64 (chFrom costs b c (pre.map (·.1))).2) ∧ W.frozen? ⟨w.heap.size + 1 + 1 + 1, 0, none⟩ = false ∧ W.frozen? ⟨w.heap.size + 1 + 1 + 1 + 1, 0, none⟩ = false) ∧ (Below w.heap.size w W ∧ w.heap.size + 7 ≤ W.heap.size))
    (fun _ _ _ => False)
    (OwnFrom.and (Own.from (fun s X Y row hs hg hr => ⟨cell_kept hs.1 hg hr, cell_kept hs.2.1 hg hr, cell_kept hs.2.2.1 hg hr, cell_kept hs.2.2.2.1 hg hr, cell_kept hs.2.2.2.2.1 hg hr, cell_kept hs.2.2.2.2.2.1 hg hr, cell_kept hs.2.2.2.2.2.2.1 hg hr, (frozen_kept hs.2.2.2.2.2.1 hg hr).trans hs.2.2.2.2.2.2.2.1, (frozen_kept hs.2.2.2.2.2.2.1 hg hr).trans hs.2.2.2.2.2.2.2.2⟩) _) (OwnFrom.and (ownFrom_below (Nat.le_refl _) (by omega)) (fun s X Y row hs hg hr => Nat.le_trans hs hg.size)))
    (fun _ _ _ _ _ hs _ _ => hs)
    ⟨⟨c00, c01, c02, c1, c2, c3, c4, f3, f4⟩, hbel, by omega⟩
    (fun x => { tmps := #[.agg #[sv, .int .i64 b, .int .i64 cols], .slice A cols cap, .int .i64 c, .pointer (some ⟨w.heap.size, 0, none⟩), .pointer (some ⟨w.heap.size + 1, 0, none⟩), .pointer (some ⟨w.heap.size + 1 + 1, 0, none⟩), .pointer (some ⟨w.heap.size + 1 + 1 + 1, 0, none⟩), .pointer (some ⟨w.heap.size + 1 + 1 + 1 + 1, 0, none⟩), .int .i64 x.1, undef, .agg #[sv, .int .i64 b, .int .i64 cols], .int .i64 c, .func (.func 114) #[] #[.pointer (some ⟨w.heap.size + 1 + 1 + 1 + 1 + 1 + 1, 0, none⟩), .pointer (some ⟨w.heap.size + 1 + 1 + 1 + 1 + 1, 0, none⟩)], .int .i64 x.1, undef, undef, undef, undef, undef, undef, undef, undef, undef, undef, undef, undef, undef, undef, undef, undef], defers := [] }) ?assign ?body ?done ?stop
  case assign =>
    intro l x W K hK
    gi_wp2
    exact hK
  case body =>
    clear c00 c01 c02 c1 c2 c3 c4 f3 f4 c5 c6 hbel hW0 hsz
    rintro l pre ⟨x, hx0, hx1⟩ W ⟨⟨d00, d01, d02, d1, d2, d3, d4, e3, e4⟩, hBW, hWs⟩ _
    obtain ⟨k, rfl⟩ := Int.eq_ofNat_of_zero_le hx0
    obtain ⟨ad, rfl, _, hca⟩ := (HR.out.below hBW).2 (by omega)
    have hck := hca k (by omega)
    clear hca
    obtain ⟨cv, hcv⟩ : ∃ cv, costs.getD k 0 = cv := ⟨_, rfl⟩
    obtain ⟨s1, s2, hs⟩ : ∃ s1 s2, chFrom costs b c (pre.map (·.1)) = (s1, s2) := ⟨_, _, rfl⟩
    have hsn : Hid (chFrom costs b c ((pre ++ [(⟨(k : Int), hx0, hx1⟩ : Col cols)]).map (·.1)) = chStep costs b c (s1, s2) k) := by
      show _ = _
      rw [List.map_append, List.map_cons, List.map_nil, chFrom_snoc, hs]
    rw [hs] at d3 d4
    rw [hcv] at hck
    dsimp only at d3 d4
    obtain ⟨bv, hbv⟩ : ∃ bv, (if (c : Int) = (k : Int) then 0 else b) = bv := ⟨_, rfl⟩
    have hcvb : -1000000000000000000 ≤ cv ∧ cv ≤ 1000000000000000000 := by
      rw [← hcv, List.getD_eq_getElem?_getD, List.getElem?_eq_getElem (by have := HR.out.1; omega)]
      exact HC.out _ (List.getElem_mem _)
    have hbvb : 0 ≤ bv ∧ bv ≤ 1000000 := by have := HB0.out; rw [← hbv]; split <;> omega
    have HBend : Hid (∀ W' : World, (W'.cell? (ad.add k) = some (.int .i64 cv) ∧ W'.cell? ((⟨w.heap.size, 0, none⟩ : Addr)) = some (sv) ∧ W'.cell? (⟨w.heap.size, 1, none⟩) = some (.int .i64 b) ∧ W'.cell? (⟨w.heap.size, 2, none⟩) = some (.int .i64 cols) ∧ W'.cell? (⟨w.heap.size + 1, 0, none⟩) = some (.slice (some ad) cols cap) ∧ W'.cell? (⟨w.heap.size + 1 + 1, 0, none⟩) = some (.int .i64 c) ∧ W'.cell? (⟨w.heap.size + 1 + 1 + 1, 0, none⟩) = some (.int .i64 s1) ∧ W'.cell? (⟨w.heap.size + 1 + 1 + 1 + 1, 0, none⟩) = some (.int .i64 s2) ∧ W'.frozen? ⟨w.heap.size + 1 + 1 + 1, 0, none⟩ = false ∧ W'.frozen? ⟨w.heap.size + 1 + 1 + 1 + 1, 0, none⟩ = false ∧ w.heap.size + 7 ≤ W'.heap.size ∧ KeepsOthers W W' ∧ Kp2 (w.heap.size + 1 + 1 + 1 + 1 + 1 + 1) (w.heap.size + 1 + 1 + 1 + 1 + 1) W W' ∧ Below w.heap.size W W') → Calls Tryz.prog 97 #[.agg #[sv, .int .i64 b, .int .i64 cols], .int .i64 c, .int .i64 k] W' fun e w' => e = .returned (.int .i64 bv) ∧ (w'.cell? (ad.add k) = some (.int .i64 cv) ∧ w'.cell? ((⟨w.heap.size, 0, none⟩ : Addr)) = some (sv) ∧ w'.cell? (⟨w.heap.size, 1, none⟩) = some (.int .i64 b) ∧ w'.cell? (⟨w.heap.size, 2, none⟩) = some (.int .i64 cols) ∧ w'.cell? (⟨w.heap.size + 1, 0, none⟩) = some (.slice (some ad) cols cap) ∧ w'.cell? (⟨w.heap.size + 1 + 1, 0, none⟩) = some (.int .i64 c) ∧ w'.cell? (⟨w.heap.size + 1 + 1 + 1, 0, none⟩) = some (.int .i64 s1) ∧ w'.cell? (⟨w.heap.size + 1 + 1 + 1 + 1, 0, none⟩) = some (.int .i64 s2) ∧ w'.frozen? ⟨w.heap.size + 1 + 1 + 1, 0, none⟩ = false ∧ w'.frozen? ⟨w.heap.size + 1 + 1 + 1 + 1, 0, none⟩ = false ∧ w.heap.size + 7 ≤ w'.heap.size ∧ KeepsOthers W w' ∧ Kp2 (w.heap.size + 1 + 1 + 1 + 1 + 1 + 1) (w.heap.size + 1 + 1 + 1 + 1 + 1) W w' ∧ Below w.heap.size W w')) := by
      rintro W' ⟨g1, g2, g3, g4, g5, g6, g7, g8, g9, g10, g11, g12, g13, g14⟩
      refine (bend_any sv b cols c k W').mono ?_
      rintro e w' ⟨he, o, rfl⟩
      exact ⟨by rw [he, hbv], cellA o g1, cellA o g2, cellA o g3, cellA o g4, cellA o g5, cellA o g6, cellA o g7, cellA o g8, frozA o g7 g9, frozA o g8 g10, by simp; omega, g12.trans (KeepsOthers.alloc _ _), g13.trans (Kp2.alloc _ _ (by omega) (by omega)), g14.alloc (by omega) _⟩
    have HS : Hid (costs.getD k 0 = cv) := hcv
    have HV : Hid ((if (c : Int) = (k : Int) then 0 else b) = bv) := hbv
    clear hcv hbv hs
    have hwrp : IntKind.i64.wrap (cv + bv) = cv + bv := IntWalk.i64_in _ (by omega)
    have hmx : Tryz.prog.follows .mixedOrders = true := by kernel_rfl
    gi_wp2
    refine region_in_round (S := (fun w' : World => w'.cell? (ad.add k) = some (.int .i64 cv) ∧ w'.cell? ((⟨w.heap.size, 0, none⟩ : Addr)) = some (sv) ∧ w'.cell? (⟨w.heap.size, 1, none⟩) = some (.int .i64 b) ∧ w'.cell? (⟨w.heap.size, 2, none⟩) = some (.int .i64 cols) ∧ w'.cell? (⟨w.heap.size + 1, 0, none⟩) = some (.slice (some ad) cols cap) ∧ w'.cell? (⟨w.heap.size + 1 + 1, 0, none⟩) = some (.int .i64 c) ∧ w'.cell? (⟨w.heap.size + 1 + 1 + 1, 0, none⟩) = some (.int .i64 s1) ∧ w'.cell? (⟨w.heap.size + 1 + 1 + 1 + 1, 0, none⟩) = some (.int .i64 s2) ∧ w'.frozen? ⟨w.heap.size + 1 + 1 + 1, 0, none⟩ = false ∧ w'.frozen? ⟨w.heap.size + 1 + 1 + 1 + 1, 0, none⟩ = false ∧ w.heap.size + 7 ≤ w'.heap.size ∧ KeepsOthers W w' ∧ Kp2 (w.heap.size + 1 + 1 + 1 + 1 + 1 + 1) (w.heap.size + 1 + 1 + 1 + 1 + 1) W w' ∧ Below w.heap.size W w')) (R := (fun a' w' => (fun w' : World => w'.cell? (ad.add k) = some (.int .i64 cv) ∧ w'.cell? ((⟨w.heap.size, 0, none⟩ : Addr)) = some (sv) ∧ w'.cell? (⟨w.heap.size, 1, none⟩) = some (.int .i64 b) ∧ w'.cell? (⟨w.heap.size, 2, none⟩) = some (.int .i64 cols) ∧ w'.cell? (⟨w.heap.size + 1, 0, none⟩) = some (.slice (some ad) cols cap) ∧ w'.cell? (⟨w.heap.size + 1 + 1, 0, none⟩) = some (.int .i64 c) ∧ w'.cell? (⟨w.heap.size + 1 + 1 + 1, 0, none⟩) = some (.int .i64 s1) ∧ w'.cell? (⟨w.heap.size + 1 + 1 + 1 + 1, 0, none⟩) = some (.int .i64 s2) ∧ w'.frozen? ⟨w.heap.size + 1 + 1 + 1, 0, none⟩ = false ∧ w'.frozen? ⟨w.heap.size + 1 + 1 + 1 + 1, 0, none⟩ = false ∧ w.heap.size + 7 ≤ w'.heap.size ∧ KeepsOthers W w' ∧ Kp2 (w.heap.size + 1 + 1 + 1 + 1 + 1 + 1) (w.heap.size + 1 + 1 + 1 + 1 + 1) W w' ∧ Below w.heap.size W w') w' ∧ ∃ u14 u15 u16 u17 u18 u19 u20 u21 u22 : Value, a' = { tmps := #[.agg #[sv, .int .i64 b, .int .i64 cols], .slice (some ad) cols cap, .int .i64 c, .pointer (some ⟨w.heap.size, 0, none⟩), .pointer (some ⟨w.heap.size + 1, 0, none⟩), .pointer (some ⟨w.heap.size + 1 + 1, 0, none⟩), .pointer (some ⟨w.heap.size + 1 + 1 + 1, 0, none⟩), .pointer (some ⟨w.heap.size + 1 + 1 + 1 + 1, 0, none⟩), .int .i64 k, .int .i64 (cv + bv), .agg #[sv, .int .i64 b, .int .i64 cols], .int .i64 c, .func (.func 114) #[] #[.pointer (some ⟨w.heap.size + 1 + 1 + 1 + 1 + 1 + 1, 0, none⟩), .pointer (some ⟨w.heap.size + 1 + 1 + 1 + 1 + 1, 0, none⟩)], .int .i64 k, u14, u15, u16, u17, u18, u19, u20, u21, u22, undef, undef, undef, undef, undef, undef, undef], defers := [] })) hmx (by intro i o hi c; rcases i with _ | _ | _ | _ | _ | _ | _ | _ | _ | _ | i <;> first | (cases hi; simp; done) | (simp at hi)) ?_ ?_ ?_
    · first | (with_reducible assumption) | exact ⟨hck, d00, d01, d02, d1, d2, d3, d4, e3, e4, hWs, KeepsOthers.drew _, Kp2.drew _, (Below.refl _ _).drew⟩
    intro hHeld
    refine wpAnyH_take (i := 0) (v := ?_) rfl (by kernel_rfl) (by kernel_rfl) (by kernel_rfl) (fun _ _ _ h => h) (Or.inl ⟨by rfl, ?_⟩) (by assumption) ?_
    rotate_left
    · intro w hSw; (try dsimp only at hSw); go_simp; (try (with_reducible rfl))
    try simp only [List.getElem_toArray, List.getElem_cons_succ, List.getElem_cons_zero, Act.put, List.setIfInBounds_toArray, List.set_cons_zero, List.set_cons_succ]
    refine wpAnyH_take (i := 1) (v := ?_) rfl (by kernel_rfl) (by kernel_rfl) (by kernel_rfl) (fun _ _ _ h => h) (Or.inl ⟨by rfl, ?_⟩) (by assumption) ?_
    rotate_left
    · intro w hSw; (try dsimp only at hSw); go_simp; (try (with_reducible rfl))
    try simp only [List.getElem_toArray, List.getElem_cons_succ, List.getElem_cons_zero, Act.put, List.setIfInBounds_toArray, List.set_cons_zero, List.set_cons_succ]
    refine wpAnyH_take (i := 2) (v := ?_) rfl (by kernel_rfl) (by kernel_rfl) (by kernel_rfl) (fun _ _ _ h => h) (Or.inl ⟨by rfl, ?_⟩) (by assumption) ?_
    rotate_left
    · intro w hSw; (try dsimp only at hSw); go_simp; (try (with_reducible rfl))
    try simp only [List.getElem_toArray, List.getElem_cons_succ, List.getElem_cons_zero, Act.put, List.setIfInBounds_toArray, List.set_cons_zero, List.set_cons_succ]
    refine wpAnyH_take (i := 3) (v := ?_) rfl (by kernel_rfl) (by kernel_rfl) (by kernel_rfl) (fun _ _ _ h => h) (Or.inl ⟨by rfl, ?_⟩) (by assumption) ?_
    rotate_left
    · intro w hSw; (try dsimp only at hSw); go_simp; (try (with_reducible rfl))
    try simp only [List.getElem_toArray, List.getElem_cons_succ, List.getElem_cons_zero, Act.put, List.setIfInBounds_toArray, List.set_cons_zero, List.set_cons_succ]
    refine wpAnyH_take (i := 4) (v := ?_) rfl (by kernel_rfl) (by kernel_rfl) (by kernel_rfl) (fun _ _ _ h => h) (Or.inl ⟨by rfl, ?_⟩) (by assumption) ?_
    rotate_left
    · intro w hSw; (try dsimp only at hSw); go_simp; (try (with_reducible rfl))
    try simp only [List.getElem_toArray, List.getElem_cons_succ, List.getElem_cons_zero, Act.put, List.setIfInBounds_toArray, List.set_cons_zero, List.set_cons_succ]
    refine wpAnyH_take (i := 5) (v := ?_) rfl (by kernel_rfl) (by kernel_rfl) (by kernel_rfl) (fun _ _ _ h => h) (Or.inl ⟨by rfl, ?_⟩) (by assumption) ?_
    rotate_left
    · intro w hSw; (try dsimp only at hSw); go_simp; (try (with_reducible rfl))
    try simp only [List.getElem_toArray, List.getElem_cons_succ, List.getElem_cons_zero, Act.put, List.setIfInBounds_toArray, List.set_cons_zero, List.set_cons_succ]
    refine wpAnyH_take (i := 6) (v := ?_) rfl (by kernel_rfl) (by kernel_rfl) (by kernel_rfl) (fun _ _ _ h => h) (Or.inl ⟨by rfl, ?_⟩) (by assumption) ?_
    rotate_left
    · intro w hSw; (try dsimp only at hSw); go_simp; (try (with_reducible rfl))
    try simp only [List.getElem_toArray, List.getElem_cons_succ, List.getElem_cons_zero, Act.put, List.setIfInBounds_toArray, List.set_cons_zero, List.set_cons_succ]
    refine wpAnyH_ready (rs := [7]) (by kernel_rfl) (by simp) ?_
    refine AllReadyH.cons rfl (fun K hK => ?_) AllReadyH.nil
    go_simp
    go_at_call 97; refine (HBend.out _ hHeld).mono ?_; rintro e w' ⟨rfl, hs2⟩
    go_wp2_with fail
    refine hK.out _ _ ?_ (fun hHeld => ?_)
    · clear hK K; first | (with_reducible assumption) | exact ⟨hck, d00, d01, d02, d1, d2, d3, d4, e3, e4, hWs, KeepsOthers.drew _, Kp2.drew _, (Below.refl _ _).drew⟩
    clear hK K
    try simp only [List.getElem_toArray, List.getElem_cons_succ, List.getElem_cons_zero, Act.put, List.setIfInBounds_toArray, List.set_cons_zero, List.set_cons_succ]
    refine wpAnyH_take (i := 8) (v := ?_) rfl (by kernel_rfl) (by kernel_rfl) (by kernel_rfl) (fun _ _ _ h => h) (Or.inl ⟨by rfl, ?_⟩) (by assumption) ?_
    rotate_left
    · intro w hSw; (try dsimp only at hSw); go_simp; (try (with_reducible rfl))
    try simp only [List.getElem_toArray, List.getElem_cons_succ, List.getElem_cons_zero, Act.put, List.setIfInBounds_toArray, List.set_cons_zero, List.set_cons_succ]
    refine wpAnyH_take (i := 9) (v := ?_) rfl (by kernel_rfl) (by kernel_rfl) (by kernel_rfl) (fun _ _ _ h => h) (Or.inl ⟨by rfl, ?_⟩) (by assumption) ?_
    rotate_left
    · intro w hSw; (try dsimp only at hSw); go_simp; (try (with_reducible rfl))
    try simp only [List.getElem_toArray, List.getElem_cons_succ, List.getElem_cons_zero, Act.put, List.setIfInBounds_toArray, List.set_cons_zero, List.set_cons_succ]
    refine wpAnyH_done (by kernel_rfl) ?_ _
    · exact ⟨hHeld, _, _, _, _, _, _, _, _, _, rfl⟩
    intro a' w' g1 g2 g3 g4 g5 g6 g7 g8 g9 g10 g11 hKO hK2 hBl u14 u15 u16 u17 u18 u19 u20 u21 u22 ha'
    subst ha'
    clear d00 d01 d02 d1 d2 d3 d4 e3 e4 hck HBend hWs
    have hval : costs.getD (k : Int).toNat 0 + (if (k : Int) = (c : Int) then 0 else b) = cv + bv := by
      rw [Int.toNat_natCast, HS.out]
      congr 1
      rw [← HV.out]
      by_cases e : (c : Int) = (k : Int)
      · rw [if_pos e, if_pos e.symm]
      · rw [if_neg e, if_neg (fun e' => e e'.symm)]
    have HVal := Lib.hid hval
    clear hval
    by_cases hlt : cv + bv < s2
    · have hst : Hid (chFrom costs b c ((pre ++ [(⟨(k : Int), hx0, hx1⟩ : Col cols)]).map (·.1)) = ((k : Int), cv + bv)) := by
        show _ = _
        rw [hsn.out]; unfold chStep; rw [HVal.out]; exact if_pos hlt
      gi_wp2
      refine ⟨hKO.trans ((KeepsOthers.setCell _ _ _).trans (KeepsOthers.setCell _ _ _)), hK2.trans ((Kp2.setCell _ _ _ (by dsimp only; omega) (by dsimp only; omega)).trans (Kp2.setCell _ _ _ (by dsimp only; omega) (by dsimp only; omega))), ?_, (((hBW.trans hBl).setCell (p := ⟨w.heap.size + 1 + 1 + 1, 0, none⟩) (by dsimp only; omega) _).setCell (p := ⟨w.heap.size + 1 + 1 + 1 + 1, 0, none⟩) (by dsimp only; omega) _), by simp; omega⟩
      rw [hst.out]
      refine ⟨?_, ?_, ?_, ?_, ?_, ?_, ?_, ?_, ?_⟩
      · rw [World.cell?_setCell_far _ _ _ _ (by dsimp only; omega), World.cell?_setCell_far _ _ _ _ (by dsimp only; omega)]; exact g2
      · rw [World.cell?_setCell_far _ _ _ _ (by dsimp only; omega), World.cell?_setCell_far _ _ _ _ (by dsimp only; omega)]; exact g3
      · rw [World.cell?_setCell_far _ _ _ _ (by dsimp only; omega), World.cell?_setCell_far _ _ _ _ (by dsimp only; omega)]; exact g4
      · rw [World.cell?_setCell_far _ _ _ _ (by dsimp only; omega), World.cell?_setCell_far _ _ _ _ (by dsimp only; omega)]; exact g5
      · rw [World.cell?_setCell_far _ _ _ _ (by dsimp only; omega), World.cell?_setCell_far _ _ _ _ (by dsimp only; omega)]; exact g6
      · rw [World.cell?_setCell_far _ _ _ _ (by dsimp only; omega)]; exact World.cell?_setCell_same' _ _ _ (by rw [g7]; rfl)
      · exact World.cell?_setCell_same' _ _ _ (by rw [World.cell?_setCell_far _ _ _ _ (by dsimp only; omega), g8]; rfl)
      · rw [World.frozen?_setCell, World.frozen?_setCell]; exact g9
      · rw [World.frozen?_setCell, World.frozen?_setCell]; exact g10
    · have hst : Hid (chFrom costs b c ((pre ++ [(⟨(k : Int), hx0, hx1⟩ : Col cols)]).map (·.1)) = (s1, s2)) := by
        show _ = _
        rw [hsn.out]; unfold chStep; rw [HVal.out]; exact if_neg hlt
      gi_wp2
      refine ⟨hKO, hK2, ?_, hBW.trans hBl, g11⟩
      have h1 : w'.cell? ⟨w.heap.size + 1 + 1 + 1, 0, none⟩ = some (.int .i64 (chFrom costs b c ((pre ++ [(⟨(k : Int), hx0, hx1⟩ : Col cols)]).map (·.1))).1) := by rw [hst.out]; exact g7
      have h2 : w'.cell? ⟨w.heap.size + 1 + 1 + 1 + 1, 0, none⟩ = some (.int .i64 (chFrom costs b c ((pre ++ [(⟨(k : Int), hx0, hx1⟩ : Col cols)]).map (·.1))).2) := by rw [hst.out]; exact g8
      exact ⟨g2, g3, g4, g5, g6, h1, h2, g9, g10⟩
  case done =>
    clear c00 c01 c02 c1 c2 c3 c4 f3 f4 c5 c6 hbel hW0
    rintro D ys W hD hys ⟨⟨d00, d01, d02, d1, d2, d3, d4, e3, e4⟩, hB, hWs⟩ hK
    rw [hys] at d3 d4
    change _ = some (Value.int .i64 (chp costs b c cols).1) at d3
    change _ = some (Value.int .i64 (chp costs b c cols).2) at d4
    obtain ⟨r1, hr1⟩ : ∃ r, (chp costs b c cols).1 = r := ⟨_, rfl⟩
    obtain ⟨r2, hr2⟩ : ∃ r, (chp costs b c cols).2 = r := ⟨_, rfl⟩
    rw [hr1] at d3
    rw [hr2] at d4
    have HR1 := Lib.hid hr1
    have HR2 := Lib.hid hr2
    have HK := Lib.hid hK
    clear hr1 hr2 hK hys d00 d01 d02 d1 d2
    have hmx : Tryz.prog.follows .mixedOrders = true := by kernel_rfl
    gi_wp2
    gi_region
    all_goals gi_wp2
    all_goals (try go_bits)
    all_goals
      have hK' : (((W.setCell ⟨w.heap.size + 1 + 1 + 1, 0, none⟩ (.int .i64 r1)).setCell ⟨w.heap.size + 1 + 1 + 1 + 1, 0, none⟩ (.int .i64 r2)).drew).heap[D]? = some (.deferred (some [])) := (((KeepsOthers.setCell W ⟨w.heap.size + 1 + 1 + 1, 0, none⟩ (.int .i64 r1)).trans (KeepsOthers.setCell _ ⟨w.heap.size + 1 + 1 + 1 + 1, 0, none⟩ (.int .i64 r2))).trans (KeepsOthers.drew _)).same D _ HK.out rfl
      refine ⟨by simp, .inl ⟨_, _, rfl, run_takeDeferred hK', ?_⟩⟩
      have hx1 := cell_kept (W := ((W.setCell ⟨w.heap.size + 1 + 1 + 1, 0, none⟩ (.int .i64 r1)).setCell ⟨w.heap.size + 1 + 1 + 1 + 1, 0, none⟩ (.int .i64 r2)).drew) (a := ⟨w.heap.size + 1 + 1 + 1, 0, none⟩) (v := .int .i64 r1) (by show World.cell? ((W.setCell _ _).setCell _ _) _ = _; rw [World.cell?_setCell_far _ _ _ _ (by dsimp only; omega)]; exact World.cell?_setCell_same' _ _ _ (by rw [d3]; rfl)) (grownBy_putObj' _ D (.deferred none)) (fun r e => by cases e; exact ⟨_, hK', rfl⟩)
      have hx2 := cell_kept (W := ((W.setCell ⟨w.heap.size + 1 + 1 + 1, 0, none⟩ (.int .i64 r1)).setCell ⟨w.heap.size + 1 + 1 + 1 + 1, 0, none⟩ (.int .i64 r2)).drew) (a := ⟨w.heap.size + 1 + 1 + 1 + 1, 0, none⟩) (v := .int .i64 r2) (World.cell?_setCell_same' _ _ _ (by rw [World.cell?_setCell_far _ _ _ _ (by dsimp only; omega), d4]; rfl)) (grownBy_putObj' _ D (.deferred none)) (fun r e => by cases e; exact ⟨_, hK', rfl⟩)
      refine ⟨.tuple #[.int .i64 r1, .int .i64 r2], ?_, by rw [HR1.out, HR2.out], ?_⟩
      · simp [results, Tryz.f82, go_sem, hx1, hx2]
      · exact (((hB.setCell (p := ⟨w.heap.size + 1 + 1 + 1, 0, none⟩) (by dsimp only; omega) _).setCell (p := ⟨w.heap.size + 1 + 1 + 1 + 1, 0, none⟩) (by dsimp only; omega) _).drew).trans (belowK_b (w := w) (Nat.le_refl _) _ D _ _ (by omega) hK' rfl rfl)
  case stop =>
    rintro D c pre W _ _ h _
    exact h.elim


theorem mem_nbrs {c cols : Nat} {x : Int} (h0 : 0 ≤ x) (h1 : x < cols) (h2 : (c : Int) - 1 ≤ x) (h3 : x ≤ c + 1) : x ∈ nbrs c cols := by
  simp only [nbrs, List.mem_map, List.mem_range, nbrCount]
  refine ⟨x.toNat - (c - 1), ?_, ?_⟩ <;> omega
/-- The cheapest neighbour, also of numbers below 0. -/
theorem chp_least (costs : List Int) (b M : Int) (c cols : Nat) (hc : c < cols) (hl : costs.length = cols) (hb : 0 ≤ b) (hM : M + b < 9223372036854775807) (hcs : ∀ x ∈ costs, -M ≤ x ∧ x ≤ M) :
    (∃ x ∈ nbrs c cols, (chp costs b c cols).2 = chSum costs b c x) ∧ -M ≤ (chp costs b c cols).2 ∧ (chp costs b c cols).2 ≤ M + b ∧ ∀ x ∈ nbrs c cols, (chp costs b c cols).2 ≤ chSum costs b c x := by
  have hsum : ∀ x ∈ nbrs c cols, -M ≤ chSum costs b c x ∧ chSum costs b c x ≤ M + b := by
    intro x hx
    have h1 := nbrs_near hc hx
    have h2 : -M ≤ costs.getD x.toNat 0 ∧ costs.getD x.toNat 0 ≤ M := hcs _ (getD_in costs x.toNat 0 (by omega))
    unfold chSum
    split <;> omega
  obtain ⟨h1, h2, h3⟩ := chFold costs b c (nbrs c cols) (0, 9223372036854775807)
  change (chp costs b c cols).2 ≤ _ at h1
  have h4 := hsum _ (nbrs_ne c cols hc)
  have h5 := h2 _ (nbrs_ne c cols hc)
  change (chp costs b c cols).2 ≤ _ at h5
  rcases h3 with e | ⟨x, hx, e⟩
  · change chp costs b c cols = _ at e
    rw [e] at h5
    dsimp only at h5
    omega
  · change chp costs b c cols = _ at e
    have h6 := hsum x hx
    have h7 : (chp costs b c cols).2 = chSum costs b c x := by rw [e]
    exact ⟨⟨x, hx, h7⟩, by omega, by omega, h2⟩
/-- The greatest that a price may be. -/
def cellV (rows : List (List Int)) (r c : Nat) : Int := (rows.getD r []).getD c 0
def mpF (rows : List (List Int)) (b : Int) (m : Nat) (p : List (List Int)) (r c : Nat) : Int := cellV rows r c + (if r = 0 then 0 else (chp (p.getD (r - 1) []) b c m).2)
def cellF (rows : List (List Int)) (b : Int) (m : Nat) (p : List (List Int)) (r c : Nat) : Int := if mpF rows b m p r c < cellV p r c then 19 else 0
def rowF (rows : List (List Int)) (b : Int) (m : Nat) (p : List (List Int)) (r : Nat) : Int := firstF (cellF rows b m p r) m
def pricesE (rows : List (List Int)) (b : Int) (n m : Nat) (p : List (List Int)) : Int :=
  if p.length = n then (if rowsE m (-1000000) 1000000 p = 0 then firstF (rowF rows b m p) n else rowsE m (-1000000) 1000000 p) else 10
def minK (xs : List Int) : Nat → Int
  | 0 => xs.getD 0 0
  | k + 1 => min (minK xs k) (xs.getD k 0)
def boundF (p : List (List Int)) : Int := minK (p.getD (p.length - 1) []) (p.getD (p.length - 1) []).length
theorem minK_le (xs : List Int) : ∀ k j, j < k → minK xs k ≤ xs.getD j 0
  | 0, j, h => absurd h (by omega)
  | k + 1, j, h => by
    show min (minK xs k) (xs.getD k 0) ≤ _
    by_cases e : j = k
    · subst e; exact Int.min_le_right _ _
    · exact Int.le_trans (Int.min_le_left _ _) (minK_le xs k j (by omega))
theorem minK_one (xs : List Int) : minK xs 1 = xs.getD 0 0 := by
  show min (xs.getD 0 0) (xs.getD 0 0) = _
  omega
theorem fromB_all {lo hi : Int} {xs : List Int} (h : fromB lo hi xs = true) : ∀ x ∈ xs, lo ≤ x ∧ x ≤ hi := fun x hx => by
  unfold fromB at h
  rw [List.all_eq_true] at h
  simpa using h x hx
theorem prices_parts {rows : List (List Int)} {b : Int} {n m : Nat} {p : List (List Int)} (h : pricesE rows b n m p = 0) : p.length = n ∧ (∀ r ∈ p, r.length = m ∧ ∀ x ∈ r, -1000000 ≤ x ∧ x ≤ 1000000) ∧ ∀ r, r < n → ∀ c, c < m → cellV p r c ≤ mpF rows b m p r c := by
  unfold pricesE at h
  by_cases h0 : p.length = n
  · rw [if_pos h0] at h
    by_cases h1 : rowsE m (-1000000) 1000000 p = 0
    · rw [if_pos h1] at h
      refine ⟨h0, fun r hr => ⟨(rowsE_zero h1 r hr).1, fromB_all (rowsE_zero h1 r hr).2⟩, fun r hr c hc => ?_⟩
      have h2 := firstF_ok (firstF_ok h r hr) c hc
      unfold cellF at h2
      by_cases e : mpF rows b m p r c < cellV p r c
      · rw [if_pos e] at h2; omega
      · omega
    · rw [if_neg h1] at h; exact absurd h h1
  · rw [if_neg h0] at h; omega
/-- No path costs less than the bound of prices. -/
theorem bound_le {rows : List (List Int)} {b : Int} {n m : Nat} {p : List (List Int)} {path : List Int} (hn : 0 < n) (hb : 0 ≤ b ∧ b ≤ 1000) (h : pricesE rows b n m p = 0) (hp : pathE n m path = 0) : boundF p ≤ costF rows b path n := by
  obtain ⟨h0, h1, h2⟩ := prices_parts h
  have hpl := path_in hp
  have hpa : firstF (pAt m path) n = 0 := by unfold pathE at hp; rw [if_pos hpl.1] at hp; exact hp
  have key : ∀ k, k < n → cellV p k (path.getD k 0).toNat ≤ costF rows b path (k + 1) := by
    intro k
    induction k with
    | zero =>
      intro hk
      have hx := hpl.2 0 hk
      have h3 := h2 0 hk (path.getD 0 0).toNat (by omega)
      unfold mpF at h3
      rw [if_pos rfl] at h3
      have e : costF rows b path (0 + 1) = 0 + valAt rows path 0 + bendAt b path 0 := rfl
      rw [e, bendAt_zero]
      unfold valAt
      unfold cellV at h3 ⊢
      omega
    | succ k ih =>
      intro hk
      have ih' := ih (by omega)
      have hx := hpl.2 (k + 1) hk
      have hy := hpl.2 k (by omega)
      have h3 := h2 (k + 1) hk (path.getD (k + 1) 0).toNat (by omega)
      have hst := firstF_ok hpa (k + 1) hk
      have hrl := h1 _ (getD_in p k [] (by omega))
      have hl := chp_least (p.getD k []) b 1000000 (path.getD (k + 1) 0).toNat m (by omega) hrl.1 hb.1 (by omega) hrl.2
      have hnb : path.getD k 0 ∈ nbrs (path.getD (k + 1) 0).toNat m := by
        unfold pAt at hst
        rw [if_pos hx] at hst
        by_cases e : (k + 1 = 0 ∨ (-1 ≤ path.getD (k + 1) 0 - path.getD (k + 1 - 1) 0 ∧ path.getD (k + 1) 0 - path.getD (k + 1 - 1) 0 ≤ 1))
        · have e' := e.resolve_left (by omega)
          rw [Nat.add_sub_cancel] at e'
          exact mem_nbrs hy.1 (by omega) (by omega) (by omega)
        · rw [if_neg e] at hst; omega
      have h4 := hl.2.2.2 _ hnb
      unfold mpF at h3
      rw [if_neg (by omega), Nat.add_sub_cancel] at h3
      have e : costF rows b path (k + 1 + 1) = costF rows b path (k + 1) + valAt rows path (k + 1) + bendAt b path (k + 1) := rfl
      rw [e, bendAt_succ]
      unfold chSum at h4
      have e2 : (if path.getD k 0 = ((path.getD (k + 1) 0).toNat : Int) then (0 : Int) else b) = if path.getD k 0 = path.getD (k + 1) 0 then 0 else b := by
        rw [show ((path.getD (k + 1) 0).toNat : Int) = path.getD (k + 1) 0 by omega]
      rw [e2] at h4
      have e3 : valAt rows path (k + 1) = cellV rows (k + 1) (path.getD (k + 1) 0).toNat := rfl
      have e4 : cellV p k (path.getD k 0).toNat = (p.getD k []).getD (path.getD k 0).toNat 0 := rfl
      rw [e3]
      rw [e4] at ih'
      omega
  have hk := key (n - 1) (by omega)
  have hx := hpl.2 (n - 1) (by omega)
  rw [show n - 1 + 1 = n by omega] at hk
  refine Int.le_trans ?_ hk
  unfold boundF
  rw [h0]
  have hrl := (h1 _ (getD_in p (n - 1) [] (by omega))).1
  exact minK_le _ _ _ (by rw [hrl]; omega)

end Go.Proofs.YtjjflbnopphciaaGreatDoor

