import Derived.Test.YtpkjkegcdddimaaDoorH6
import Derived.Test.YtpkjkegcdddimaaDoorGV
import Derived.Test.YtpkjkegcdddimaaDoorR6
import Derived.Test.YtpkjkegcdddimaaDoorP6
import Derived.Test.YtpkjkegcdddimaaDoorS0
import Derived.Test.YtpkjkegcdddimaaDoorT0
namespace Go.Proofs.YtpkjkegcdddimaaDoor
open Go.RowKit

set_option maxRecDepth 100000 in
set_option maxHeartbeats 4000000 in
theorem refGridErr_any (A : Option Addr) (n c R C : Nat) (rows : List (List Int)) (w : World) (hr : RdG w A n rows) (hn : n ≤ 9223372036854775806) :
    Calls Tryd.prog 34 #[.slice A n c, .int .i64 R, .int .i64 C] w fun e w' => e = .returned (.int .i64 (gridE R C rows)) ∧ Below w.heap.size w w' := by
  by_cases h0 : n = 0
  · subst h0
    have he := Lib.hid (gridE_zero (R := R) (C := C) hr.1)
    clear hr
    go_enter Tryd.func34, Tryd.ntmps34
    go_wp2
    go_ret
    exact ⟨by rw [he.out]; rfl, Below.refl _ _⟩
  · have HR := Lib.hid hr
    have HRL : Hid (rows.length = n) := hr.1
    obtain ⟨ad, rfl, hadb, hc⟩ := hr.2 (by omega)
    obtain ⟨B0, m0, c0, hck, hrow, hm⟩ := hc 0 (by omega)
    clear hc
    have HE := Lib.hid (gridE_row (R := R) (C := C) hr.1 (by omega) hrow.1)
    rw [addZ] at hck
    clear hr hrow
    have hn1 : ((n : Int) == 0) = false := by simp; omega
    have hnp : (0 : Int) < (n : Int) := by omega
    have hnN : 0 < n := by omega
    by_cases hm0 : m0 = 0
    · subst hm0
      have he : Hid (gridE R C rows = 10) := by show _ = _; rw [HE.out]; rfl
      go_enter Tryd.func34, Tryd.ntmps34
      go_wp2
      go_ret
      exact ⟨by rw [he.out]; rfl, Below.refl _ _⟩
    · have hm1 : ((m0 : Int) == 0) = false := by simp; omega
      have hmp : (0 : Int) < (m0 : Int) := by omega
      by_cases hR : R < n
      · have he : Hid (gridE R C rows = 8) := by show _ = _; rw [HE.out, if_neg hm0, if_pos (.inl hR)]
        have hRI : (R : Int) < (n : Int) := by omega
        go_enter Tryd.func34, Tryd.ntmps34
        go_wp2
        go_ret
        exact ⟨by rw [he.out]; rfl, Below.refl _ _⟩
      · have hRI : ¬ (R : Int) < (n : Int) := by omega
        by_cases hC : C < m0
        · have he : Hid (gridE R C rows = 8) := by show _ = _; rw [HE.out, if_neg hm0, if_pos (.inr hC)]
          have hCI : (C : Int) < (m0 : Int) := by omega
          go_enter Tryd.func34, Tryd.ntmps34
          go_wp2
          go_ret
          exact ⟨by rw [he.out]; rfl, Below.refl _ _⟩
        · have he : Hid (gridE R C rows = rowsE m0 0 255 rows) := by show _ = _; rw [HE.out, if_neg hm0, if_neg (by omega)]
          have hCI : ¬ (C : Int) < (m0 : Int) := by omega
          have HQ0 : Hid (∀ W, Below w.heap.size w W → W.cell? ad = some (.slice B0 m0 c0)) := fun W hb => (hb.cell hadb).trans hck
          go_enter Tryd.func34, Tryd.ntmps34
          go_wp2
          clear hck
          go_loopw [7] (fun i wr => ∃ k : Nat, k ≤ n ∧ i = .int .i64 k ∧ Hid (rowsE m0 0 255 rows = rowsE m0 0 255 (rows.drop k)) ∧ Hid (Below w.heap.size w wr)) (fun i _ => n - (intOf i).toNat)
          case atStart => exact ⟨0, Nat.zero_le _, rfl, rfl, Below.refl _ _⟩
          case round =>
            obtain ⟨k, hk, rfl, HE2, HX⟩ := hrel
            by_cases hlt : k < n
            · have hkI : (k : Int) < (n : Int) := by omega
              have hk0 : (0 : Int) ≤ (k : Int) := by omega
              obtain ⟨ad', ha, _, hc⟩ := (HR.out.below HX.out).2 (by omega)
              obtain ⟨B, m, c', hck, hrow, hm⟩ := hc k hlt
              cases ha
              clear hc
              have hst := rowsE_step m0 0 255 rows k (by rw [HRL.out]; exact hlt)
              obtain ⟨x, hx⟩ : ∃ x, rows.getD k [] = x := ⟨_, rfl⟩
              rw [hx] at hrow hst
              have HST := Lib.hid hst
              have HROW := Lib.hid hrow
              have HXL : Hid (x.length = m) := hrow.1
              have HS2 : Hid ((fun w' : World => w'.cell? (ad.add k) = some (.slice B m c') ∧ w'.cell? ad = some (.slice B0 m0 c0)) wr.drew) := ⟨hck, HQ0.out _ HX.out.drew⟩
              have HCK : Hid (wr.drew.cell? (ad.add k) = some (.slice B m c')) := hck
              clear hck hst hx hrow
              by_cases hmm : m = m0
              · subst hmm
                have hmq : ((m : Int) != (m : Int)) = false := bne_self_eq_false' _
                go_wp2_with fail
                refine wp_region_held_drew (S := (fun w' : World => w'.cell? (ad.add k) = some (.slice B m c') ∧ w'.cell? ad = some (.slice B0 m c0))) (by kernel_rfl) ?_ ?_
                · exact HS2.out
                intro hHeld
                refine wpAnyH_take (i := 0) (v := ?_) rfl (by kernel_rfl) (by kernel_rfl) (by kernel_rfl) (fun _ _ _ h => h) (Or.inl ⟨by rfl, ?_⟩) (by assumption) ?_
                rotate_left
                · intro w hSw; (try dsimp only at hSw); go_simp; (try (with_reducible rfl))
                try simp only [List.getElem_toArray, List.getElem_cons_succ, List.getElem_cons_zero, Act.put, List.setIfInBounds_toArray, List.set_cons_zero, List.set_cons_succ]
                refine wpAnyH_take (i := 1) (v := ?_) rfl (by kernel_rfl) (by kernel_rfl) (by kernel_rfl) (fun _ _ _ h => h) (Or.inl ⟨by rfl, ?_⟩) (by assumption) ?_
                rotate_left
                · intro w hSw; (try dsimp only at hSw); go_simp; (try (with_reducible rfl))
                try simp only [List.getElem_toArray, List.getElem_cons_succ, List.getElem_cons_zero, Act.put, List.setIfInBounds_toArray, List.set_cons_zero, List.set_cons_succ]
                refine wpAnyH_take (i := 2) (v := ?_) rfl (by kernel_rfl) (by kernel_rfl) (by kernel_rfl) (fun _ _ _ h => h) (Or.inl ⟨by rfl, ?_⟩) (by assumption) ?_
                rotate_left
                · intro w hSw; (try dsimp only at hSw); go_simp; (try (with_reducible rfl))
                try simp only [List.getElem_toArray, List.getElem_cons_succ, List.getElem_cons_zero, Act.put, List.setIfInBounds_toArray, List.set_cons_zero, List.set_cons_succ]
                refine wpAnyH_take (i := 3) (v := ?_) rfl (by kernel_rfl) (by kernel_rfl) (by kernel_rfl) (fun _ _ _ h => h) (Or.inl ⟨by rfl, ?_⟩) (by assumption) ?_
                rotate_left
                · intro w hSw; (try dsimp only at hSw); go_simp; (try (with_reducible rfl))
                try simp only [List.getElem_toArray, List.getElem_cons_succ, List.getElem_cons_zero, Act.put, List.setIfInBounds_toArray, List.set_cons_zero, List.set_cons_succ]
                refine wpAnyH_take (i := 4) (v := ?_) rfl (by kernel_rfl) (by kernel_rfl) (by kernel_rfl) (fun _ _ _ h => h) (Or.inl ⟨by rfl, ?_⟩) (by assumption) ?_
                rotate_left
                · intro w hSw; (try dsimp only at hSw); go_simp; (try (with_reducible rfl))
                try simp only [List.getElem_toArray, List.getElem_cons_succ, List.getElem_cons_zero, Act.put, List.setIfInBounds_toArray, List.set_cons_zero, List.set_cons_succ]
                refine wpAnyH_take (i := 5) (v := ?_) rfl (by kernel_rfl) (by kernel_rfl) (by kernel_rfl) (fun _ _ _ h => h) (Or.inl ⟨by rfl, ?_⟩) (by assumption) ?_
                rotate_left
                · intro w hSw; (try dsimp only at hSw); go_simp; (try (with_reducible rfl))
                try simp only [List.getElem_toArray, List.getElem_cons_succ, List.getElem_cons_zero, Act.put, List.setIfInBounds_toArray, List.set_cons_zero, List.set_cons_succ]
                refine wpAnyH_take (i := 6) (v := ?_) rfl (by kernel_rfl) (by kernel_rfl) (by kernel_rfl) (fun _ _ _ h => h) (Or.inl ⟨by rfl, ?_⟩) (by assumption) ?_
                rotate_left
                · intro w hSw; (try dsimp only at hSw); go_simp; (try (with_reducible rfl))
                try simp only [List.getElem_toArray, List.getElem_cons_succ, List.getElem_cons_zero, Act.put, List.setIfInBounds_toArray, List.set_cons_zero, List.set_cons_succ]
                refine wpAnyH_take (i := 7) (v := ?_) rfl (by kernel_rfl) (by kernel_rfl) (by kernel_rfl) (fun _ _ _ h => h) (Or.inl ⟨by rfl, ?_⟩) (by assumption) ?_
                rotate_left
                · intro w hSw; (try dsimp only at hSw); go_simp; (try (with_reducible rfl))
                try simp only [List.getElem_toArray, List.getElem_cons_succ, List.getElem_cons_zero, Act.put, List.setIfInBounds_toArray, List.set_cons_zero, List.set_cons_succ]
                refine wpAnyH_take (i := 8) (v := ?_) rfl (by kernel_rfl) (by kernel_rfl) (by kernel_rfl) (fun _ _ _ h => h) (Or.inl ⟨by rfl, ?_⟩) (by assumption) ?_
                rotate_left
                · intro w hSw; (try dsimp only at hSw); go_simp; (try (with_reducible rfl))
                try simp only [List.getElem_toArray, List.getElem_cons_succ, List.getElem_cons_zero, Act.put, List.setIfInBounds_toArray, List.set_cons_zero, List.set_cons_succ]
                refine wpAnyH_take (i := 9) (v := ?_) rfl (by kernel_rfl) (by kernel_rfl) (by kernel_rfl) (fun _ _ _ h => h) (Or.inl ⟨by rfl, ?_⟩) (by assumption) ?_
                rotate_left
                · intro w hSw; (try dsimp only at hSw); go_simp; (try (with_reducible rfl))
                try simp only [List.getElem_toArray, List.getElem_cons_succ, List.getElem_cons_zero, Act.put, List.setIfInBounds_toArray, List.set_cons_zero, List.set_cons_succ]
                refine wpAnyH_done (by kernel_rfl) ?_ _
                clear hHeld HS2
                have c1 := HCK.out
                have HB2 := Lib.hid HX.out.drew
                have HROW2 := Lib.hid HROW.out.drew
                obtain ⟨W2, hW2⟩ : ∃ W, wr.drew = W := ⟨_, rfl⟩
                rw [hW2] at c1 HB2 HROW2 ⊢
                clear hW2 HCK HX HROW hmq
                go_wp2
                go_loop [8] (fun i => ∃ t : Nat, t ≤ m ∧ i = .int .i64 t ∧ Hid (fromB 0 255 x = fromB 0 255 (x.drop t))) (fun i => m - (intOf i).toNat)
                case atStart => exact ⟨0, Nat.zero_le _, rfl, rfl⟩
                case round =>
                  obtain ⟨t, ht, rfl, HF⟩ := hrel
                  by_cases htl : t < m
                  · have htI : (t : Int) < (m : Int) := by omega
                    have ht0 : (0 : Int) ≤ (t : Int) := by omega
                    obtain ⟨bd, hbd, _, hcb⟩ := HROW2.out.2 (by omega)
                    have y1 := hcb t htl
                    clear hcb
                    subst hbd
                    have hfs := fromB_step 0 255 x t (by rw [HXL.out]; exact htl)
                    obtain ⟨y, hy⟩ : ∃ y, x.getD t 0 = y := ⟨_, rfl⟩
                    rw [hy] at y1 hfs
                    have HFS := Lib.hid hfs
                    clear hfs hy
                    by_cases hin : 0 ≤ y ∧ y ≤ 255
                    · have CW : Hid (∀ W, Calls Tryd.prog 18 #[.int .i64 y, .int .i64 0, .int .i64 255] W fun e w' => e = .returned (.bool true) ∧ W = w') := fun W => by
                        have h := within_any y 0 255 W
                        rw [fromB_one.2 hin] at h
                        exact h
                      have HF2 : Hid (fromB 0 255 x = fromB 0 255 (x.drop (t + 1))) := by show _ = _; rw [HF.out, HFS.out, decide_eq_true hin.1, decide_eq_true hin.2]; rfl
                      clear hin
                      go_wp2_with fail
                      refine (CW.out _).mono ?_
                      rintro e w' ⟨rfl, rfl⟩
                      go_wp2
                      go_round
                      case rel => exact ⟨t + 1, by omega, by go_num, HF2.out⟩
                      case measure => simp [intOf]; omega
                    · have CW : Hid (∀ W, Calls Tryd.prog 18 #[.int .i64 y, .int .i64 0, .int .i64 255] W fun e w' => e = .returned (.bool false) ∧ W = w') := fun W => by
                        have h := within_any y 0 255 W
                        rw [show fromB 0 255 [y] = false by rw [Bool.eq_false_iff]; intro e; exact hin (fromB_one.1 e)] at h
                        exact h
                      have HF2 : Hid (fromB 0 255 x = false) := by
                        show _ = _
                        rw [HF.out, HFS.out]
                        by_cases h1 : 0 ≤ y
                        · rw [show decide (y ≤ 255) = false from decide_eq_false (by omega)]; simp
                        · rw [show decide ((0 : Int) ≤ y) = false from decide_eq_false (by omega)]; simp
                      clear hin
                      go_wp2_with fail
                      refine (CW.out _).mono ?_
                      rintro e w' ⟨rfl, rfl⟩
                      go_wp2
                      go_ret
                      refine ⟨?_, HB2.out⟩
                      rw [he.out, HE2.out, HST.out]
                      unfold rowE
                      rw [if_pos HXL.out, HF2.out]
                      rfl
                  · obtain rfl : m = t := by omega
                    have HF2 : Hid (rowE m 0 255 x = 0) := by
                      show _ = _
                      unfold rowE
                      rw [if_pos HXL.out, HF.out, List.drop_eq_nil_of_le (by rw [HXL.out]; exact Nat.le_refl _)]
                      rfl
                    have HE3 : Hid (rowsE m 0 255 rows = rowsE m 0 255 (rows.drop (k + 1))) := by show _ = _; rw [HE2.out, HST.out, if_pos HF2.out]
                    clear HF
                    go_wp2
                    go_roundw
                    case rel => exact ⟨k + 1, by omega, by go_num, HE3.out, HB2.out⟩
                    case measure => simp [intOf]; omega
              · have hmq : ((m : Int) != (m0 : Int)) = true := by rw [bne_iff_ne]; omega
                have HF2 : Hid (rowE m0 0 255 x = 10) := by show _ = _; unfold rowE; rw [if_neg (by rw [HXL.out]; exact hmm)]
                clear hmm
                go_wp2_with fail
                refine wp_region_held_drew (S := (fun w' : World => w'.cell? (ad.add k) = some (.slice B m c') ∧ w'.cell? ad = some (.slice B0 m0 c0))) (by kernel_rfl) ?_ ?_
                · exact HS2.out
                intro hHeld
                refine wpAnyH_take (i := 0) (v := ?_) rfl (by kernel_rfl) (by kernel_rfl) (by kernel_rfl) (fun _ _ _ h => h) (Or.inl ⟨by rfl, ?_⟩) (by assumption) ?_
                rotate_left
                · intro w hSw; (try dsimp only at hSw); go_simp; (try (with_reducible rfl))
                try simp only [List.getElem_toArray, List.getElem_cons_succ, List.getElem_cons_zero, Act.put, List.setIfInBounds_toArray, List.set_cons_zero, List.set_cons_succ]
                refine wpAnyH_take (i := 1) (v := ?_) rfl (by kernel_rfl) (by kernel_rfl) (by kernel_rfl) (fun _ _ _ h => h) (Or.inl ⟨by rfl, ?_⟩) (by assumption) ?_
                rotate_left
                · intro w hSw; (try dsimp only at hSw); go_simp; (try (with_reducible rfl))
                try simp only [List.getElem_toArray, List.getElem_cons_succ, List.getElem_cons_zero, Act.put, List.setIfInBounds_toArray, List.set_cons_zero, List.set_cons_succ]
                refine wpAnyH_take (i := 2) (v := ?_) rfl (by kernel_rfl) (by kernel_rfl) (by kernel_rfl) (fun _ _ _ h => h) (Or.inl ⟨by rfl, ?_⟩) (by assumption) ?_
                rotate_left
                · intro w hSw; (try dsimp only at hSw); go_simp; (try (with_reducible rfl))
                try simp only [List.getElem_toArray, List.getElem_cons_succ, List.getElem_cons_zero, Act.put, List.setIfInBounds_toArray, List.set_cons_zero, List.set_cons_succ]
                refine wpAnyH_take (i := 3) (v := ?_) rfl (by kernel_rfl) (by kernel_rfl) (by kernel_rfl) (fun _ _ _ h => h) (Or.inl ⟨by rfl, ?_⟩) (by assumption) ?_
                rotate_left
                · intro w hSw; (try dsimp only at hSw); go_simp; (try (with_reducible rfl))
                try simp only [List.getElem_toArray, List.getElem_cons_succ, List.getElem_cons_zero, Act.put, List.setIfInBounds_toArray, List.set_cons_zero, List.set_cons_succ]
                refine wpAnyH_take (i := 4) (v := ?_) rfl (by kernel_rfl) (by kernel_rfl) (by kernel_rfl) (fun _ _ _ h => h) (Or.inl ⟨by rfl, ?_⟩) (by assumption) ?_
                rotate_left
                · intro w hSw; (try dsimp only at hSw); go_simp; (try (with_reducible rfl))
                try simp only [List.getElem_toArray, List.getElem_cons_succ, List.getElem_cons_zero, Act.put, List.setIfInBounds_toArray, List.set_cons_zero, List.set_cons_succ]
                refine wpAnyH_take (i := 5) (v := ?_) rfl (by kernel_rfl) (by kernel_rfl) (by kernel_rfl) (fun _ _ _ h => h) (Or.inl ⟨by rfl, ?_⟩) (by assumption) ?_
                rotate_left
                · intro w hSw; (try dsimp only at hSw); go_simp; (try (with_reducible rfl))
                try simp only [List.getElem_toArray, List.getElem_cons_succ, List.getElem_cons_zero, Act.put, List.setIfInBounds_toArray, List.set_cons_zero, List.set_cons_succ]
                refine wpAnyH_take (i := 6) (v := ?_) rfl (by kernel_rfl) (by kernel_rfl) (by kernel_rfl) (fun _ _ _ h => h) (Or.inl ⟨by rfl, ?_⟩) (by assumption) ?_
                rotate_left
                · intro w hSw; (try dsimp only at hSw); go_simp; (try (with_reducible rfl))
                try simp only [List.getElem_toArray, List.getElem_cons_succ, List.getElem_cons_zero, Act.put, List.setIfInBounds_toArray, List.set_cons_zero, List.set_cons_succ]
                refine wpAnyH_take (i := 7) (v := ?_) rfl (by kernel_rfl) (by kernel_rfl) (by kernel_rfl) (fun _ _ _ h => h) (Or.inl ⟨by rfl, ?_⟩) (by assumption) ?_
                rotate_left
                · intro w hSw; (try dsimp only at hSw); go_simp; (try (with_reducible rfl))
                try simp only [List.getElem_toArray, List.getElem_cons_succ, List.getElem_cons_zero, Act.put, List.setIfInBounds_toArray, List.set_cons_zero, List.set_cons_succ]
                refine wpAnyH_take (i := 8) (v := ?_) rfl (by kernel_rfl) (by kernel_rfl) (by kernel_rfl) (fun _ _ _ h => h) (Or.inl ⟨by rfl, ?_⟩) (by assumption) ?_
                rotate_left
                · intro w hSw; (try dsimp only at hSw); go_simp; (try (with_reducible rfl))
                try simp only [List.getElem_toArray, List.getElem_cons_succ, List.getElem_cons_zero, Act.put, List.setIfInBounds_toArray, List.set_cons_zero, List.set_cons_succ]
                refine wpAnyH_take (i := 9) (v := ?_) rfl (by kernel_rfl) (by kernel_rfl) (by kernel_rfl) (fun _ _ _ h => h) (Or.inl ⟨by rfl, ?_⟩) (by assumption) ?_
                rotate_left
                · intro w hSw; (try dsimp only at hSw); go_simp; (try (with_reducible rfl))
                try simp only [List.getElem_toArray, List.getElem_cons_succ, List.getElem_cons_zero, Act.put, List.setIfInBounds_toArray, List.set_cons_zero, List.set_cons_succ]
                refine wpAnyH_done (by kernel_rfl) ?_ _
                clear hHeld HS2
                go_wp2
                go_ret
                refine ⟨?_, HX.out.drew⟩
                rw [he.out, HE2.out, HST.out, HF2.out]
                rfl
            · obtain rfl : n = k := by omega
              go_wp2
              go_ret
              refine ⟨?_, HX.out⟩
              rw [he.out, HE2.out, List.drop_eq_nil_of_le (by rw [HRL.out]; exact Nat.le_refl _)]
              rfl

theorem refStripErr_any (A : Option Addr) (n c : Nat) (rows : List (List Int)) (w : World) (hr : RdG w A n rows) (hn : n ≤ 9223372036854775806) :
    Calls Tryd.prog 48 #[.slice A n c] w fun e w' => e = .returned (.int .i64 (gridE 40 12 rows)) ∧ Below w.heap.size w w' := by
  have C0 := Lib.hid (refGridErr_any A n c 40 12 rows w hr hn)
  clear hr
  go_enter Tryd.func48, Tryd.ntmps48
  go_wp2_with fail
  refine C0.out.mono ?_
  rintro e w1 ⟨rfl, hb⟩
  have HB := Lib.hid hb
  clear hb
  go_wp2
  go_ret
  exact ⟨rfl, HB.out⟩

end Go.Proofs.YtpkjkegcdddimaaDoor

namespace Go.Proofs.YtpkjkegcdddimaaDoor
open Go.RowKit

/-- Rows are not many more, and not much longer, than numbers. -/
def gridB (R C : Nat) (rows : List (List Int)) : Bool := decide (rows.length ≤ R + 2) && rows.all fun r => decide (r.length ≤ C + 2)
theorem gridB_drop (C : Nat) (rows : List (List Int)) (k : Nat) (h : k < rows.length) : ((rows.drop k).all fun r => decide (r.length ≤ C + 2)) = (decide ((rows.getD k []).length ≤ C + 2) && (rows.drop (k + 1)).all fun r => decide (r.length ≤ C + 2)) := by
  rw [List.drop_eq_getElem_cons h]
  simp only [List.all_cons, List.getD_eq_getElem?_getD, List.getElem?_eq_getElem h, Option.getD_some]

set_option maxRecDepth 100000 in
set_option maxHeartbeats 1000000 in
theorem grid_any (A : Option Addr) (n c R C : Nat) (rows : List (List Int)) (w : World) (hr : RdGo w A n rows) (hR : R ≤ 1000) (hC : C ≤ 1000) :
    Calls Tryd.prog 33 #[.slice A n c, .int .i64 R, .int .i64 C] w fun e w' => e = .returned (.bool (gridB R C rows)) ∧ w = w' := by
  have HR := Lib.hid hr
  have HRL : Hid (rows.length = n) := hr.1
  have hw1 : IntKind.i64.wrap ((R : Int) + 2) = (R : Int) + 2 := IntWalk.i64_in _ (by omega)
  have hw2 : IntKind.i64.wrap ((C : Int) + 2) = (C : Int) + 2 := IntWalk.i64_in _ (by omega)
  have HG : Hid (gridB R C rows = (decide (n ≤ R + 2) && rows.all fun r => decide (r.length ≤ C + 2))) := by show _ = _; unfold gridB; rw [HRL.out]
  clear hr
  by_cases h0 : n ≤ R + 2
  · have h0I : ¬ (R : Int) + 2 < (n : Int) := by omega
    have HG2 : Hid (gridB R C rows = rows.all fun r => decide (r.length ≤ C + 2)) := by show _ = _; rw [HG.out, decide_eq_true h0, Bool.true_and]
    have hnb : n ≤ 1002 := by omega
    clear h0
    go_enter Tryd.func33, Tryd.ntmps33
    go_wp2
    go_loop [7] (fun i => ∃ k : Nat, k ≤ n ∧ i = .int .i64 k ∧ Hid ((rows.all fun r => decide (r.length ≤ C + 2)) = (rows.drop k).all fun r => decide (r.length ≤ C + 2))) (fun i => n - (intOf i).toNat)
    case atStart => exact ⟨0, Nat.zero_le _, rfl, rfl⟩
    case round =>
      obtain ⟨k, hk, rfl, HE⟩ := hrel
      by_cases hlt : k < n
      · have hkI : (k : Int) < (n : Int) := by omega
        have hk0 : (0 : Int) ≤ (k : Int) := by omega
        obtain ⟨ad, ha, _, hc⟩ := HR.out.2 (by omega)
        obtain ⟨B, m, c', hck, hrow, _⟩ := hc k hlt
        have hst := gridB_drop C rows k (by rw [HRL.out]; exact hlt)
        have hxl : (rows.getD k []).length = m := hrow.1
        rw [hxl] at hst
        have HST := Lib.hid hst
        clear hc hrow hst hxl
        subst ha
        by_cases hm : m ≤ C + 2
        · have hmI : ¬ (C : Int) + 2 < (m : Int) := by omega
          have HE2 : Hid ((rows.all fun r => decide (r.length ≤ C + 2)) = (rows.drop (k + 1)).all fun r => decide (r.length ≤ C + 2)) := by show _ = _; rw [HE.out, HST.out, decide_eq_true hm, Bool.true_and]
          clear hm
          go_wp2
          go_round
          case rel => exact ⟨k + 1, by omega, by go_num, HE2.out⟩
          case measure => simp [intOf]; omega
        · have hmI : (C : Int) + 2 < (m : Int) := by omega
          have HE2 : Hid (gridB R C rows = false) := by show _ = _; rw [HG2.out, HE.out, HST.out, decide_eq_false hm, Bool.false_and]
          clear hm
          go_wp2
          go_ret
          exact ⟨by rw [HE2.out]; rfl, rfl⟩
      · obtain rfl : n = k := by omega
        have HE2 : Hid (gridB R C rows = true) := by show _ = _; rw [HG2.out, HE.out, List.drop_eq_nil_of_le (by rw [HRL.out]; exact Nat.le_refl _)]; rfl
        go_wp2
        go_ret
        exact ⟨by rw [HE2.out]; rfl, rfl⟩
  · have h0I : (R : Int) + 2 < (n : Int) := by omega
    have HE2 : Hid (gridB R C rows = false) := by show _ = _; rw [HG.out, decide_eq_false h0, Bool.false_and]
    clear h0
    go_enter Tryd.func33, Tryd.ntmps33
    go_wp2
    go_ret
    exact ⟨by rw [HE2.out]; rfl, rfl⟩

theorem strip_any (A : Option Addr) (n c : Nat) (rows : List (List Int)) (w : World) (hr : RdGo w A n rows) :
    Calls Tryd.prog 21 #[.slice A n c] w fun e w' => e = .returned (.bool (gridB 40 12 rows)) ∧ w = w' := by
  have C0 := Lib.hid (grid_any A n c 40 12 rows w hr (by omega) (by omega))
  clear hr
  go_enter Tryd.func21, Tryd.ntmps21
  go_wp2_with fail
  refine C0.out.mono ?_
  rintro e w' ⟨rfl, rfl⟩
  go_wp2
  go_ret
  exact ⟨rfl, rfl⟩
theorem image_any (A : Option Addr) (n c : Nat) (rows : List (List Int)) (w : World) (hr : RdGo w A n rows) :
    Calls Tryd.prog 8 #[.agg #[.slice A n c]] w fun e w' => e = .returned (.bool (gridB 24 24 rows)) ∧ Below w.heap.size w w' := by
  have hb : Below w.heap.size w (w.alloc (.cells #[.slice A n c] 24)) := (Below.refl _ _).alloc (Nat.le_refl _) _
  have C0 := Lib.hid (grid_any A n c 24 24 rows _ (hr.below hb) (by omega) (by omega))
  have HB := Lib.hid hb
  clear hr hb
  go_enter Tryd.func8, Tryd.ntmps8
  go_wp2_with fail
  refine C0.out.mono ?_
  rintro e w' ⟨rfl, rfl⟩
  go_wp2
  go_ret
  exact ⟨rfl, HB.out⟩
theorem refImageErr_any (A : Option Addr) (n c : Nat) (rows : List (List Int)) (w : World) (hr : RdG w A n rows) (hn : n ≤ 9223372036854775806) :
    Calls Tryd.prog 9 #[.agg #[.slice A n c]] w fun e w' => e = .returned (.int .i64 (gridE 24 24 rows)) ∧ Below w.heap.size w w' := by
  have hb : Below w.heap.size w (w.alloc (.cells #[.slice A n c] 24)) := (Below.refl _ _).alloc (Nat.le_refl _) _
  have C0 := Lib.hid (refGridErr_any A n c 24 24 rows _ (hr.below hb) hn)
  have HB := Lib.hid hb
  clear hr hb
  go_enter Tryd.func9, Tryd.ntmps9
  go_wp2_with fail
  refine C0.out.mono ?_
  rintro e w1 ⟨rfl, hb1⟩
  have HB1 := Lib.hid (HB.out.trans (hb1.mono HB.out.size))
  clear hb1
  go_wp2
  go_ret
  exact ⟨rfl, HB1.out⟩
set_option maxHeartbeats 1000000 in
theorem refTaskErr_any (A : Option Addr) (n c : Nat) (rows : List (List Int)) (b : Int) (w : World) (hr : RdG w A n rows) (hn : n ≤ 9223372036854775806) :
    Calls Tryd.prog 25 #[.agg #[.slice A n c, .int .i64 b]] w fun e w' => e = .returned (.int .i64 (taskE rows b)) ∧ Below w.heap.size w w' := by
  have hb : Below w.heap.size w (w.alloc (.cells #[.slice A n c, .int .i64 b] 58)) := (Below.refl _ _).alloc (Nat.le_refl _) _
  have C0 := Lib.hid (refStripErr_any A n c rows _ (hr.below hb) hn)
  have hb1 : (w.alloc (.cells #[.slice A n c, .int .i64 b] 58)).cell? ⟨w.heap.size, 1, none⟩ = some (.int .i64 b) := by simp [go_sem]
  have HK : Hid (∀ W, Below (w.alloc (.cells #[.slice A n c, .int .i64 b] 58)).heap.size (w.alloc (.cells #[.slice A n c, .int .i64 b] 58)) W → W.cell? ⟨w.heap.size, 1, none⟩ = some (.int .i64 b)) := fun W h => (h.cell (p := ⟨w.heap.size, 1, none⟩) (by simp)).trans hb1
  have HB := Lib.hid hb
  have CW := Lib.hid (fun W => within_any b 0 1000 W)
  have HT : Hid (taskE rows b = if gridE 40 12 rows = 0 then (if fromB 0 1000 [b] = true then 0 else 2) else gridE 40 12 rows) := rfl
  obtain ⟨g, hg⟩ : ∃ g, gridE 40 12 rows = g := ⟨_, rfl⟩
  obtain ⟨q, hq⟩ : ∃ q, fromB 0 1000 [b] = q := ⟨_, rfl⟩
  rw [hg] at C0 HT
  rw [hq] at CW HT
  clear hr hb hb1 hg hq
  by_cases hg0 : g = 0
  · subst hg0
    cases q
    all_goals
      go_enter Tryd.func25, Tryd.ntmps25
      go_wp2_with fail
      refine C0.out.mono ?_
      rintro e w1 ⟨rfl, hb1⟩
      have k1 := HK.out w1 hb1
      have HB1 := Lib.hid (HB.out.trans (hb1.mono HB.out.size))
      clear hb1
      go_wp2_with fail
      refine (CW.out _).mono ?_
      rintro e w' ⟨rfl, rfl⟩
      go_wp2
      go_ret
      exact ⟨by rw [HT.out]; rfl, HB1.out⟩
  · have hgb : (g != 0) = true := by simpa using hg0
    have HT2 : Hid (taskE rows b = g) := by show _ = _; rw [HT.out, if_neg hg0]
    clear hg0
    go_enter Tryd.func25, Tryd.ntmps25
    go_wp2_with fail
    refine C0.out.mono ?_
    rintro e w1 ⟨rfl, hb1⟩
    have HB1 := Lib.hid (HB.out.trans (hb1.mono HB.out.size))
    clear hb1
    go_wp2
    go_ret
    exact ⟨by rw [HT2.out]; rfl, HB1.out⟩

end Go.Proofs.YtpkjkegcdddimaaDoor

