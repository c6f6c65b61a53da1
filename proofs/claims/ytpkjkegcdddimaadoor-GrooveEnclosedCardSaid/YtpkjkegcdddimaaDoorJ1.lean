import Derived.Test.YtpkjkegcdddimaaDoorJ0
import Derived.Test.YtpkjkegcdddimaaDoorT0
namespace Go.Proofs.YtpkjkegcdddimaaDoor
open Go.RowKit

/-- Rows are not many more, and not much longer, than numbers. -/
def gridB (R C : Nat) (rows : List (List Int)) : Bool := decide (rows.length ≤ R + 2) && rows.all fun r => decide (r.length ≤ C + 2)
theorem gridB_drop (C : Nat) (rows : List (List Int)) (k : Nat) (h : k < rows.length) : ((rows.drop k).all fun r => decide (r.length ≤ C + 2)) = (decide ((rows.getD k []).length ≤ C + 2) && (rows.drop (k + 1)).all fun r => decide (r.length ≤ C + 2)) := by
  rw [List.drop_eq_getElem_cons h]
  simp only [List.all_cons, List.getD_eq_getElem?_getD, List.getElem?_eq_getElem h, Option.getD_some]

set_option maxRecDepth 100000 in
set_option maxHeartbeats 1000000 in
theorem grid_any (A : Option Addr) (n c R C : Nat) (rows : List (List Int)) (w : World) (hr : RdGo w A n rows) (hR : R ≤ 1000) (hC : C ≤ 1000) :
    Calls Tryd.prog 33 #[.slice A n c, .int .i64 R, .int .i64 C] w fun e w' => e = .returned (.bool (gridB R C rows)) ∧ w = w' := by
  have HR := Lib.hid hr
  have HRL : Hid (rows.length = n) := hr.1
  have hw1 : IntKind.i64.wrap ((R : Int) + 2) = (R : Int) + 2 := IntWalk.i64_in _ (by omega)
  have hw2 : IntKind.i64.wrap ((C : Int) + 2) = (C : Int) + 2 := IntWalk.i64_in _ (by omega)
  have HG : Hid (gridB R C rows = (decide (n ≤ R + 2) && rows.all fun r => decide (r.length ≤ C + 2))) := by show _ = _; unfold gridB; rw [HRL.out]
  clear hr
  by_cases h0 : n ≤ R + 2
  · have h0I : ¬ (R : Int) + 2 < (n : Int) := by omega
    have HG2 : Hid (gridB R C rows = rows.all fun r => decide (r.length ≤ C + 2)) := by show _ = _; rw [HG.out, decide_eq_true h0, Bool.true_and]
    have hnb : n ≤ 1002 := by omega
    clear h0
    go_enter Tryd.func33, Tryd.ntmps33
    go_wp2
    go_loop [7] (fun i => ∃ k : Nat, k ≤ n ∧ i = .int .i64 k ∧ Hid ((rows.all fun r => decide (r.length ≤ C + 2)) = (rows.drop k).all fun r => decide (r.length ≤ C + 2))) (fun i => n - (intOf i).toNat)
    case atStart => exact ⟨0, Nat.zero_le _, rfl, rfl⟩
    case round =>
      obtain ⟨k, hk, rfl, HE⟩ := hrel
      by_cases hlt : k < n
      · have hkI : (k : Int) < (n : Int) := by omega
        have hk0 : (0 : Int) ≤ (k : Int) := by omega
        obtain ⟨ad, ha, _, hc⟩ := HR.out.2 (by omega)
        obtain ⟨B, m, c', hck, hrow, _⟩ := hc k hlt
        have hst := gridB_drop C rows k (by rw [HRL.out]; exact hlt)
        have hxl : (rows.getD k []).length = m := hrow.1
        rw [hxl] at hst
        have HST := Lib.hid hst
        clear hc hrow hst hxl
        subst ha
        by_cases hm : m ≤ C + 2
        · have hmI : ¬ (C : Int) + 2 < (m : Int) := by omega
          have HE2 : Hid ((rows.all fun r => decide (r.length ≤ C + 2)) = (rows.drop (k + 1)).all fun r => decide (r.length ≤ C + 2)) := by show _ = _; rw [HE.out, HST.out, decide_eq_true hm, Bool.true_and]
          clear hm
          go_wp2
          go_round
          case rel => exact ⟨k + 1, by omega, by go_num, HE2.out⟩
          case measure => simp [intOf]; omega
        · have hmI : (C : Int) + 2 < (m : Int) := by omega
          have HE2 : Hid (gridB R C rows = false) := by show _ = _; rw [HG2.out, HE.out, HST.out, decide_eq_false hm, Bool.false_and]
          clear hm
          go_wp2
          go_ret
          exact ⟨by rw [HE2.out]; rfl, rfl⟩
      · obtain rfl : n = k := by omega
        have HE2 : Hid (gridB R C rows = true) := by show _ = _; rw [HG2.out, HE.out, List.drop_eq_nil_of_le (by rw [HRL.out]; exact Nat.le_refl _)]; rfl
        go_wp2
        go_ret
        exact ⟨by rw [HE2.out]; rfl, rfl⟩
  · have h0I : (R : Int) + 2 < (n : Int) := by omega
    have HE2 : Hid (gridB R C rows = false) := by show _ = _; rw [HG.out, decide_eq_false h0, Bool.false_and]
    clear h0
    go_enter Tryd.func33, Tryd.ntmps33
    go_wp2
    go_ret
    exact ⟨by rw [HE2.out]; rfl, rfl⟩

theorem strip_any (A : Option Addr) (n c : Nat) (rows : List (List Int)) (w : World) (hr : RdGo w A n rows) :
    Calls Tryd.prog 21 #[.slice A n c] w fun e w' => e = .returned (.bool (gridB 40 12 rows)) ∧ w = w' := by
  have C0 := Lib.hid (grid_any A n c 40 12 rows w hr (by omega) (by omega))
  clear hr
  go_enter Tryd.func21, Tryd.ntmps21
  go_wp2_with fail
  refine C0.out.mono ?_
  rintro e w' ⟨rfl, rfl⟩
  go_wp2
  go_ret
  exact ⟨rfl, rfl⟩
theorem image_any (A : Option Addr) (n c : Nat) (rows : List (List Int)) (w : World) (hr : RdGo w A n rows) :
    Calls Tryd.prog 8 #[.agg #[.slice A n c]] w fun e w' => e = .returned (.bool (gridB 24 24 rows)) ∧ Below w.heap.size w w' := by
  have hb : Below w.heap.size w (w.alloc (.cells #[.slice A n c] 24)) := (Below.refl _ _).alloc (Nat.le_refl _) _
  have C0 := Lib.hid (grid_any A n c 24 24 rows _ (hr.below hb) (by omega) (by omega))
  have HB := Lib.hid hb
  clear hr hb
  go_enter Tryd.func8, Tryd.ntmps8
  go_wp2_with fail
  refine C0.out.mono ?_
  rintro e w' ⟨rfl, rfl⟩
  go_wp2
  go_ret
  exact ⟨rfl, HB.out⟩
theorem refImageErr_any (A : Option Addr) (n c : Nat) (rows : List (List Int)) (w : World) (hr : RdG w A n rows) (hn : n ≤ 9223372036854775806) :
    Calls Tryd.prog 9 #[.agg #[.slice A n c]] w fun e w' => e = .returned (.int .i64 (gridE 24 24 rows)) ∧ Below w.heap.size w w' := by
  have hb : Below w.heap.size w (w.alloc (.cells #[.slice A n c] 24)) := (Below.refl _ _).alloc (Nat.le_refl _) _
  have C0 := Lib.hid (refGridErr_any A n c 24 24 rows _ (hr.below hb) hn)
  have HB := Lib.hid hb
  clear hr hb
  go_enter Tryd.func9, Tryd.ntmps9
  go_wp2_with fail
  refine C0.out.mono ?_
  rintro e w1 ⟨rfl, hb1⟩
  have HB1 := Lib.hid (HB.out.trans (hb1.mono HB.out.size))
  clear hb1
  go_wp2
  go_ret
  exact ⟨rfl, HB1.out⟩
set_option maxHeartbeats 1000000 in
theorem refTaskErr_any (A : Option Addr) (n c : Nat) (rows : List (List Int)) (b : Int) (w : World) (hr : RdG w A n rows) (hn : n ≤ 9223372036854775806) :
    Calls Tryd.prog 25 #[.agg #[.slice A n c, .int .i64 b]] w fun e w' => e = .returned (.int .i64 (taskE rows b)) ∧ Below w.heap.size w w' := by
  have hb : Below w.heap.size w (w.alloc (.cells #[.slice A n c, .int .i64 b] 58)) := (Below.refl _ _).alloc (Nat.le_refl _) _
  have C0 := Lib.hid (refStripErr_any A n c rows _ (hr.below hb) hn)
  have hb1 : (w.alloc (.cells #[.slice A n c, .int .i64 b] 58)).cell? ⟨w.heap.size, 1, none⟩ = some (.int .i64 b) := by simp [go_sem]
  have HK : Hid (∀ W, Below (w.alloc (.cells #[.slice A n c, .int .i64 b] 58)).heap.size (w.alloc (.cells #[.slice A n c, .int .i64 b] 58)) W → W.cell? ⟨w.heap.size, 1, none⟩ = some (.int .i64 b)) := fun W h => (h.cell (p := ⟨w.heap.size, 1, none⟩) (by simp)).trans hb1
  have HB := Lib.hid hb
  have CW := Lib.hid (fun W => within_any b 0 1000 W)
  have HT : Hid (taskE rows b = if gridE 40 12 rows = 0 then (if fromB 0 1000 [b] = true then 0 else 2) else gridE 40 12 rows) := rfl
  obtain ⟨g, hg⟩ : ∃ g, gridE 40 12 rows = g := ⟨_, rfl⟩
  obtain ⟨q, hq⟩ : ∃ q, fromB 0 1000 [b] = q := ⟨_, rfl⟩
  rw [hg] at C0 HT
  rw [hq] at CW HT
  clear hr hb hb1 hg hq
  by_cases hg0 : g = 0
  · subst hg0
    cases q
    all_goals
      go_enter Tryd.func25, Tryd.ntmps25
      go_wp2_with fail
      refine C0.out.mono ?_
      rintro e w1 ⟨rfl, hb1⟩
      have k1 := HK.out w1 hb1
      have HB1 := Lib.hid (HB.out.trans (hb1.mono HB.out.size))
      clear hb1
      go_wp2_with fail
      refine (CW.out _).mono ?_
      rintro e w' ⟨rfl, rfl⟩
      go_wp2
      go_ret
      exact ⟨by rw [HT.out]; rfl, HB1.out⟩
  · have hgb : (g != 0) = true := by simpa using hg0
    have HT2 : Hid (taskE rows b = g) := by show _ = _; rw [HT.out, if_neg hg0]
    clear hg0
    go_enter Tryd.func25, Tryd.ntmps25
    go_wp2_with fail
    refine C0.out.mono ?_
    rintro e w1 ⟨rfl, hb1⟩
    have HB1 := Lib.hid (HB.out.trans (hb1.mono HB.out.size))
    clear hb1
    go_wp2
    go_ret
    exact ⟨by rw [HT2.out]; rfl, HB1.out⟩

end Go.Proofs.YtpkjkegcdddimaaDoor
