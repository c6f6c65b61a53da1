import Derived.Test.YtofdjapbofagiaaDoorD5
import Derived.Test.YtofdjapbofagiaaDoorD6
import Derived.Test.YtofdjapbofagiaaDoorD8
import Derived.Test.YtofdjapbofagiaaDoorGJ
import Derived.Test.YtofdjapbofagiaaDoorA2
namespace Go.Proofs.YtofdjapbofagiaaDoor
open Go.RowKit

theorem RdGN.toG {w : World} {A : Option Addr} {n : Nat} {rows : List (List Int)} (h : RdGN w A n rows) : RdG w A n rows := by
  refine ⟨h.1, fun hn => ?_⟩
  obtain ⟨ad, e, hlt, hc⟩ := h.2 hn
  refine ⟨ad, e, hlt, fun j hj => ?_⟩
  obtain ⟨B, m, c, h1, h2, h3, _⟩ := hc j hj
  exact ⟨B, m, c, h1, h2, h3⟩
/-- A task in a variable. -/
def TaskAt (w : World) (g : Nat) (A : Option Addr) (n c : Nat) (b : Int) : Prop := Bk w g 53 #[.slice A n c, .int .i64 b]
theorem TaskAt.below {w w' : World} {g : Nat} {A : Option Addr} {n c : Nat} {b : Int} (h : TaskAt w g A n c b) (hb : Below w.heap.size w w') : TaskAt w' g A n c b := Bk.later h hb
theorem TaskAt.c0 {w : World} {g : Nat} {A : Option Addr} {n c : Nat} {b : Int} (h : TaskAt w g A n c b) : w.cell? ⟨g, 0, none⟩ = some (.slice A n c) := by rw [Bk.cell h]; rfl
theorem TaskAt.c1 {w : World} {g : Nat} {A : Option Addr} {n c : Nat} {b : Int} (h : TaskAt w g A n c b) : w.cell? ⟨g, 1, none⟩ = some (.int .i64 b) := by rw [Bk.cell h]; rfl
def CellAt (w : World) (a : Addr) (v : Value) : Prop := a.block < w.heap.size ∧ w.cell? a = some v
theorem CellAt.below {w w' : World} {a : Addr} {v : Value} (h : CellAt w a v) (hb : Below w.heap.size w w') : CellAt w' a v := ⟨Nat.lt_of_lt_of_le h.1 hb.size, (hb.cell h.1).trans h.2⟩
theorem gridB_parts {R C : Nat} {rows : List (List Int)} (h : gridB R C rows = true) : rows.length ≤ R + 2 ∧ ∀ j, j < rows.length → (rows.getD j []).length ≤ C + 2 := by
  unfold gridB at h
  rw [Bool.and_eq_true, decide_eq_true_eq, List.all_eq_true] at h
  exact ⟨h.1, fun j hj => by have := h.2 _ (getD_in rows j [] hj); simpa using this⟩
theorem own_ranges {w : World} {base n : Nat} {v : Value} {ps : List (Int × Int)} (h : w.ownsRow base 28 2 v n (pairCells ps)) (hl : ps.length = n) : ∃ A c g, v = .slice A n c ∧ (0 < n → A = some ⟨g, 0, none⟩) ∧ RdR w g n ps := by
  obtain ⟨A, c, rfl, hf⟩ := own_form h
  by_cases h0 : 0 < n
  · obtain ⟨g, rfl⟩ := hf h0
    exact ⟨_, c, g, rfl, fun _ => rfl, rdR_of_own h hl⟩
  · exact ⟨A, c, 0, rfl, fun h => absurd h h0, hl, fun h => absurd h h0, fun j hj => absurd hj (by omega)⟩

set_option maxRecDepth 100000 in
set_option maxHeartbeats 16000000 in
theorem costs_wide (A : Option Addr) (n c : Nat) (b : Int) (rows : List (List Int)) (P : Option Addr) (k cp : Nat) (path : List Int) (limit : Int) (w : World) (hl : LaidSides w) (hr : RdGo w A n rows) (hA : P = none → k = 0 ∧ cp = 0) (hp : RdI w P k path) (hgb : gridB 40 12 rows = false) :
    Calls Tryd.prog 4 #[.agg #[.slice A n c, .int .i64 b], .slice P k cp, .int .i64 limit] w fun e w' => e = .returned (.bool true) ∧ Below w.heap.size w w' := by
  have hb0 : Below w.heap.size w (w.alloc (.cells #[.slice A n c, .int .i64 b] 53)) := (Below.refl _ _).alloc (Nat.le_refl _) _
  have HL := Lib.hid (hl.later hb0)
  have HT : Hid (TaskAt (w.alloc (.cells #[.slice A n c, .int .i64 b] 53)) w.heap.size A n c b) := Bk.new w 53 #[.slice A n c, .int .i64 b]
  have HP := Lib.hid (hp.below hb0)
  have HAP := Lib.hid hA
  have HPL : Hid (path.length = k) := hp.1
  have low0 := Lib.hid hb0
  have HR := Lib.hid (hr.below hb0)
  have CST : Hid (∀ W, RdGo W A n rows → Calls Tryd.prog 19 #[.slice A n c] W fun e w' => e = .returned (.bool false) ∧ W = w') := fun W h => by rw [← hgb]; exact strip_any _ n c rows W h
  clear hl hr hA hp hb0 hgb
  go_enter Tryd.func4, Tryd.ntmps4
  go_wp2_with fail
  refine (awake_any _ HL.out).mono ?_
  rintro e w1 ⟨rfl, hb1⟩
  have Ft1 := Lib.hid (HT.out.below hb1)
  have Fr1 := Lib.hid (HR.out.below hb1)
  have low1 := Lib.hid (low0.out.trans (hb1.mono low0.out.size))
  clear HT HR low0 HL hb1
  have n0 : w1.cell? ⟨w.heap.size, 0, none⟩ = some (.slice A n c) := Ft1.out.c0
  have n1 : w1.cell? ⟨w.heap.size, 1, none⟩ = some (.int .i64 b) := Ft1.out.c1
  go_wp2_with fail
  refine (CST.out _ Fr1.out).mono ?_
  rintro e w' ⟨rfl, rfl⟩
  go_wp2
  go_ret
  exact ⟨rfl, low1.out⟩

set_option maxRecDepth 100000 in
set_option maxHeartbeats 16000000 in
theorem costs_long (A : Option Addr) (n c : Nat) (b : Int) (rows : List (List Int)) (P : Option Addr) (k cp : Nat) (path : List Int) (limit : Int) (w : World) (hl : LaidSides w) (hr : RdGo w A n rows) (hA : P = none → k = 0 ∧ cp = 0) (hp : RdI w P k path) (hgb : gridB 40 12 rows = true) (hk : ¬ k ≤ 42) :
    Calls Tryd.prog 4 #[.agg #[.slice A n c, .int .i64 b], .slice P k cp, .int .i64 limit] w fun e w' => e = .returned (.bool true) ∧ Below w.heap.size w w' := by
  have hb0 : Below w.heap.size w (w.alloc (.cells #[.slice A n c, .int .i64 b] 53)) := (Below.refl _ _).alloc (Nat.le_refl _) _
  have HL := Lib.hid (hl.later hb0)
  have HT : Hid (TaskAt (w.alloc (.cells #[.slice A n c, .int .i64 b] 53)) w.heap.size A n c b) := Bk.new w 53 #[.slice A n c, .int .i64 b]
  have HP := Lib.hid (hp.below hb0)
  have HAP := Lib.hid hA
  have HPL : Hid (path.length = k) := hp.1
  have low0 := Lib.hid hb0
  have HR := Lib.hid (hr.below hb0)
  have CST : Hid (∀ W, RdGo W A n rows → Calls Tryd.prog 19 #[.slice A n c] W fun e w' => e = .returned (.bool true) ∧ W = w') := fun W h => by rw [← hgb]; exact strip_any _ n c rows W h
  have hkI : (42 : Int) < (k : Int) := by omega
  clear hl hr hA hp hb0 hgb
  go_enter Tryd.func4, Tryd.ntmps4
  go_wp2_with fail
  refine (awake_any _ HL.out).mono ?_
  rintro e w1 ⟨rfl, hb1⟩
  have Ft1 := Lib.hid (HT.out.below hb1)
  have Fr1 := Lib.hid (HR.out.below hb1)
  have low1 := Lib.hid (low0.out.trans (hb1.mono low0.out.size))
  clear HT HR low0 HL hb1
  have n0 : w1.cell? ⟨w.heap.size, 0, none⟩ = some (.slice A n c) := Ft1.out.c0
  have n1 : w1.cell? ⟨w.heap.size, 1, none⟩ = some (.int .i64 b) := Ft1.out.c1
  go_wp2_with fail
  refine (CST.out _ Fr1.out).mono ?_
  rintro e w' ⟨rfl, rfl⟩
  go_wp2
  go_ret
  exact ⟨rfl, low1.out⟩

end Go.Proofs.YtofdjapbofagiaaDoor

namespace Go.Proofs.YtofdjapbofagiaaDoor
open Go.RowKit

set_option maxRecDepth 100000 in
set_option maxHeartbeats 16000000 in
theorem costs_err1 (A : Option Addr) (n c : Nat) (b : Int) (rows : List (List Int)) (P : Option Addr) (k cp : Nat) (path : List Int) (limit : Int) (w : World) (hl : LaidSides w) (hr : RdGo w A n rows) (hA : P = none → k = 0 ∧ cp = 0) (hp : RdI w P k path) (hgb : gridB 40 12 rows = true) (hn42 : n ≤ 42) (hm203 : ∀ j, j < n → (rows.getD j []).length ≤ 203) (hk : k ≤ 42) (E : Int) (hE0 : E ≠ 0) (htE : taskE rows b = E) (hcst : cstE rows b n path = E) (hcrk : crkE rows b n path limit = E) (hcrl : crkL rows b n path limit = []) :
    Calls Tryd.prog 4 #[.agg #[.slice A n c, .int .i64 b], .slice P k cp, .int .i64 limit] w fun e w' => e = .returned (.bool true) ∧ Below w.heap.size w w' := by
  have hb0 : Below w.heap.size w (w.alloc (.cells #[.slice A n c, .int .i64 b] 53)) := (Below.refl _ _).alloc (Nat.le_refl _) _
  have HL := Lib.hid (hl.later hb0)
  have HT : Hid (TaskAt (w.alloc (.cells #[.slice A n c, .int .i64 b] 53)) w.heap.size A n c b) := Bk.new w 53 #[.slice A n c, .int .i64 b]
  have HP := Lib.hid (hp.below hb0)
  have HAP := Lib.hid hA
  have HPL : Hid (path.length = k) := hp.1
  have low0 := Lib.hid hb0
  have HR := Lib.hid ((hr.full hm203).below hb0)
  have HRO := Lib.hid (hr.below hb0)
  have HM := Lib.hid hm203
  have hkI : ¬ (42 : Int) < (k : Int) := by omega
  have CST : Hid (∀ W, RdGo W A n rows → Calls Tryd.prog 19 #[.slice A n c] W fun e w' => e = .returned (.bool true) ∧ W = w') := fun W h => by rw [← hgb]; exact strip_any _ n c rows W h
  have hpl : ([] : List (Int × Int)).length = 0 := rfl
  have HPS : Hid (([] : List (Int × Int)).length = 0) := hpl
  have CCT : Hid (∀ W, RdGN W A n rows → Calls Tryd.prog 21 #[.agg #[.slice A n c, .int .i64 b]] W fun e w' => (∃ A' c', e = .returned (.agg #[.slice A' n c', .int .i64 b]) ∧ RdGN w' A' n rows) ∧ Below W.heap.size W w') := fun W h => copyTask_any _ n c rows b W h (by omega) hm203
  have CCI : Hid (∀ W, RdI W P k path → Calls Tryd.prog 22 #[.slice P k cp] W fun e w' => (∃ A' c', e = .returned (.slice A' k c') ∧ RdI w' A' k path) ∧ Below W.heap.size W w') := fun W h => by
    refine (copyInts_any P k cp path W HAP.out h (by omega)).mono ?_
    rintro e w' ⟨⟨v, he, ho⟩, hb⟩
    rw [HPL.out] at ho
    obtain ⟨A', c', e2, _, hr', _⟩ := rd_ownN ho
    exact ⟨⟨A', c', by rw [he, e2], hr'⟩, hb⟩
  have CCO : Hid (∀ W A' c' P' cp', RdGN W A' n rows → RdI W P' k path → Calls Tryd.prog 20 #[.agg #[.slice A' n c', .int .i64 b], .slice P' k cp'] W fun e w' => e = .returned (.tuple #[.int .i64 0, .int .i64 E]) ∧ Below W.heap.size W w') := fun W A' c' P' cp' h1 h2 => by
    have h := CostOf_any A' n c' rows b P' k cp' path W h1.toG (by omega) h2 (by omega)
    rw [hcst, if_neg hE0] at h
    exact h
  have CCR : Hid (∀ W A' c' P' cp', RdGN W A' n rows → RdI W P' k path → Calls Tryd.prog 23 #[.agg #[.slice A' n c', .int .i64 b], .slice P' k cp', .int .i64 limit] W fun e w' => (∃ A' c' g', e = .returned (.tuple #[.slice A' 0 c', .int .i64 E]) ∧ (0 < 0 → A' = some ⟨g', 0, none⟩) ∧ RdR w' g' 0 []) ∧ Below W.heap.size W w') := fun W A' c' P' cp' h1 h2 => by
    have h := CracksIn_any A' n c' rows b limit P' k cp' path W h1.toG (by omega) h2 (by omega)
    rw [hcrk, hcrl] at h
    refine h.mono ?_
    rintro e w' ⟨⟨v, he, ho⟩, hb⟩
    rw [HPS.out] at ho
    obtain ⟨A2, c2, g2, e2, h3, h4⟩ := own_ranges ho HPS.out
    exact ⟨⟨A2, c2, g2, by rw [he, e2], h3, h4⟩, hb⟩
  obtain ⟨gE, hgE⟩ : ∃ gE, gridE 40 12 rows = gE := ⟨_, rfl⟩
  have CCS : Hid (∀ W A' c', RdGN W A' n rows → Calls Tryd.prog 24 #[.slice A' n c'] W fun e w' => e = .returned (.int .i64 gE) ∧ W = w') := fun W A' c' h => by rw [← hgE]; exact checkStrip_any A' n c' rows W h.toG (by omega)
  have CSE : Hid (∀ W, RdGN W A n rows → Calls Tryd.prog 26 #[.slice A n c] W fun e w' => e = .returned (.int .i64 gE) ∧ Below W.heap.size W w') := fun W h => by rw [← hgE]; exact refStripErr_any _ n c rows W h.toG (by omega)
  have CCL : Hid (∀ W, RdGN W A n rows → Calls Tryd.prog 25 #[.slice A n c] W fun e w' => (∃ A' c', e = .returned (.slice A' n c') ∧ RdGN w' A' n rows) ∧ Below W.heap.size W w') := fun W h => by
    refine (copyLists_any _ n c rows W h (by omega) hm203).mono ?_
    rintro e w' ⟨⟨v, he, ho⟩, hb⟩
    obtain ⟨A', c', e2, h2⟩ := ho.read hr.1 hm203
    exact ⟨⟨A', c', by rw [he, e2], h2⟩, hb⟩
  have CTE : Hid (∀ W, RdGN W A n rows → Calls Tryd.prog 27 #[.agg #[.slice A n c, .int .i64 b]] W fun e w' => e = .returned (.int .i64 E) ∧ Below W.heap.size W w') := fun W h => by rw [← htE]; exact refTaskErr_any _ n c rows b W h.toG (by omega)
  have hgg : (gE != gE) = false := bne_self_eq_false' _
  have hEb : (E != 0) = true := by simpa using hE0
  have hEz : (E == 0) = false := by simpa using hE0
  have hEE : (E == E) = true := by simp
  clear hl hr hA hp hb0 hgb hm203 hcst hcrk hcrl hgE htE hpl hE0
  go_enter Tryd.func4, Tryd.ntmps4
  go_wp2_with fail
  refine (awake_any _ HL.out).mono ?_
  rintro e w1 ⟨rfl, hb1⟩
  have Ft1 := Lib.hid (HT.out.below hb1)
  have Fr1 := Lib.hid (HR.out.below hb1)
  have Fp1 := Lib.hid (HP.out.below hb1)
  have Fo1 := Lib.hid (HRO.out.below hb1)
  have low1 := Lib.hid (low0.out.trans (hb1.mono low0.out.size))
  clear HT HR HP HRO low0 HL hb1
  have n0 : w1.cell? ⟨w.heap.size, 0, none⟩ = some (.slice A n c) := Ft1.out.c0
  have n1 : w1.cell? ⟨w.heap.size, 1, none⟩ = some (.int .i64 b) := Ft1.out.c1
  go_wp2_with fail
  refine (CST.out _ Fo1.out).mono ?_
  rintro e w' ⟨rfl, rfl⟩
  go_wp2_with fail
  refine (CCT.out _ Fr1.out).mono ?_
  rintro e w2 ⟨⟨A2, c2, rfl, hr2⟩, hb2⟩
  clear n0 n1
  have Ft2 := Lib.hid (Ft1.out.below hb2)
  have Fr2 := Lib.hid (Fr1.out.below hb2)
  have Fp2 := Lib.hid (Fp1.out.below hb2)
  have low2 := Lib.hid (low1.out.trans (hb2.mono low1.out.size))
  have Fa2 := Lib.hid hr2
  clear hr2
  clear Ft1 Fr1 Fp1 low1 hb2
  have n0 : w2.cell? ⟨w.heap.size, 0, none⟩ = some (.slice A n c) := Ft2.out.c0
  have n1 : w2.cell? ⟨w.heap.size, 1, none⟩ = some (.int .i64 b) := Ft2.out.c1
  go_wp2_with fail
  refine (CCI.out _ Fp2.out).mono ?_
  rintro e w3 ⟨⟨P3, c3, rfl, hr3⟩, hb3⟩
  clear n0 n1
  have Ft3 := Lib.hid (Ft2.out.below hb3)
  have Fr3 := Lib.hid (Fr2.out.below hb3)
  have Fp3 := Lib.hid (Fp2.out.below hb3)
  have Fa3 := Lib.hid (Fa2.out.below hb3)
  have low3 := Lib.hid (low2.out.trans (hb3.mono low2.out.size))
  have Fq3 := Lib.hid hr3
  clear hr3
  clear Ft2 Fr2 Fp2 Fa2 low2 hb3
  have n0 : w3.cell? ⟨w.heap.size, 0, none⟩ = some (.slice A n c) := Ft3.out.c0
  have n1 : w3.cell? ⟨w.heap.size, 1, none⟩ = some (.int .i64 b) := Ft3.out.c1
  go_wp2_with fail
  refine (CCO.out _ _ _ _ _ Fa3.out Fq3.out).mono ?_
  rintro e w4 ⟨rfl, hb4⟩
  clear n0 n1
  have Ft4 := Lib.hid (Ft3.out.below hb4)
  have Fr4 := Lib.hid (Fr3.out.below hb4)
  have Fp4 := Lib.hid (Fp3.out.below hb4)
  have Fa4 := Lib.hid (Fa3.out.below hb4)
  have Fq4 := Lib.hid (Fq3.out.below hb4)
  have low4 := Lib.hid (low3.out.trans (hb4.mono low3.out.size))
  clear Ft3 Fr3 Fp3 Fa3 Fq3 low3 hb4
  have n0 : w4.cell? ⟨w.heap.size, 0, none⟩ = some (.slice A n c) := Ft4.out.c0
  have n1 : w4.cell? ⟨w.heap.size, 1, none⟩ = some (.int .i64 b) := Ft4.out.c1
  go_wp2_with fail
  refine (CCT.out _ Fr4.out).mono ?_
  rintro e w5 ⟨⟨A5, c5, rfl, hr5⟩, hb5⟩
  clear n0 n1
  have Ft5 := Lib.hid (Ft4.out.below hb5)
  have Fr5 := Lib.hid (Fr4.out.below hb5)
  have Fp5 := Lib.hid (Fp4.out.below hb5)
  have low5 := Lib.hid (low4.out.trans (hb5.mono low4.out.size))
  have Fa5 := Lib.hid hr5
  clear hr5
  clear Ft4 Fr4 Fp4 low4 hb5
  have n0 : w5.cell? ⟨w.heap.size, 0, none⟩ = some (.slice A n c) := Ft5.out.c0
  have n1 : w5.cell? ⟨w.heap.size, 1, none⟩ = some (.int .i64 b) := Ft5.out.c1
  go_wp2_with fail
  refine (CCI.out _ Fp5.out).mono ?_
  rintro e w6 ⟨⟨P6, c6, rfl, hr6⟩, hb6⟩
  clear n0 n1
  have Ft6 := Lib.hid (Ft5.out.below hb6)
  have Fr6 := Lib.hid (Fr5.out.below hb6)
  have Fp6 := Lib.hid (Fp5.out.below hb6)
  have Fa6 := Lib.hid (Fa5.out.below hb6)
  have low6 := Lib.hid (low5.out.trans (hb6.mono low5.out.size))
  have Fq6 := Lib.hid hr6
  clear hr6
  clear Ft5 Fr5 Fp5 Fa5 low5 hb6
  have n0 : w6.cell? ⟨w.heap.size, 0, none⟩ = some (.slice A n c) := Ft6.out.c0
  have n1 : w6.cell? ⟨w.heap.size, 1, none⟩ = some (.int .i64 b) := Ft6.out.c1
  go_wp2_with fail
  refine (CCR.out _ _ _ _ _ Fa6.out Fq6.out).mono ?_
  rintro e w7 ⟨⟨A7r, c7r, g7, rfl, hA7, hr7r⟩, hb7⟩
  clear n0 n1
  have Ft7 := Lib.hid (Ft6.out.below hb7)
  have Fr7 := Lib.hid (Fr6.out.below hb7)
  have Fp7 := Lib.hid (Fp6.out.below hb7)
  have Fa7 := Lib.hid (Fa6.out.below hb7)
  have Fq7 := Lib.hid (Fq6.out.below hb7)
  have low7 := Lib.hid (low6.out.trans (hb7.mono low6.out.size))
  have FA7 := Lib.hid hA7
  have Fl7 := Lib.hid hr7r
  clear hr7r hA7
  clear Ft6 Fr6 Fp6 Fa6 Fq6 low6 hb7
  have n0 : w7.cell? ⟨w.heap.size, 0, none⟩ = some (.slice A n c) := Ft7.out.c0
  have n1 : w7.cell? ⟨w.heap.size, 1, none⟩ = some (.int .i64 b) := Ft7.out.c1
  go_wp2_with fail
  refine wp_region_held_drew (S := (fun w' : World => w'.cell? ⟨w.heap.size, 0, none⟩ = some (.slice A n c) ∧ Below w7.heap.size w7 w')) (by kernel_rfl) ?_ ?_
  · exact ⟨n0, (Below.refl _ _).drew⟩
  intro hHeld
  refine wpAnyH_take (i := 0) (v := ?_) rfl (by kernel_rfl) (by kernel_rfl) (by kernel_rfl) (fun _ _ _ h => h) (Or.inl ⟨by rfl, ?_⟩) (by assumption) ?_
  rotate_left
  · intro w hSw; (try dsimp only at hSw); go_simp; (try (with_reducible rfl))
  try simp only [List.getElem_toArray, List.getElem_cons_succ, List.getElem_cons_zero, Act.put, List.setIfInBounds_toArray, List.set_cons_zero, List.set_cons_succ]
  refine wpAnyH_take (i := 1) (v := ?_) rfl (by kernel_rfl) (by kernel_rfl) (by kernel_rfl) (fun _ _ _ h => h) (Or.inl ⟨by rfl, ?_⟩) (by assumption) ?_
  rotate_left
  · intro w hSw; (try dsimp only at hSw); go_simp; (try (with_reducible rfl))
  try simp only [List.getElem_toArray, List.getElem_cons_succ, List.getElem_cons_zero, Act.put, List.setIfInBounds_toArray, List.set_cons_zero, List.set_cons_succ]
  refine wpAnyH_take (i := 4) (v := ?_) rfl (by kernel_rfl) (by kernel_rfl) (by kernel_rfl) (fun _ _ _ h => h) (Or.inl ⟨by rfl, ?_⟩) (by assumption) ?_
  rotate_left
  · intro w hSw; (try dsimp only at hSw); go_simp; (try (with_reducible rfl))
  try simp only [List.getElem_toArray, List.getElem_cons_succ, List.getElem_cons_zero, Act.put, List.setIfInBounds_toArray, List.set_cons_zero, List.set_cons_succ]
  refine wpAnyH_take (i := 5) (v := ?_) rfl (by kernel_rfl) (by kernel_rfl) (by kernel_rfl) (fun _ _ _ h => h) (Or.inl ⟨by rfl, ?_⟩) (by assumption) ?_
  rotate_left
  · intro w hSw; (try dsimp only at hSw); go_simp; (try (with_reducible rfl))
  try simp only [List.getElem_toArray, List.getElem_cons_succ, List.getElem_cons_zero, Act.put, List.setIfInBounds_toArray, List.set_cons_zero, List.set_cons_succ]
  refine wpAnyH_ready (rs := [2]) (by kernel_rfl) (by simp) ?_
  refine (AllReadyH.cons rfl (fun K hK => ?_) AllReadyH.nil)
  go_simp
  go_at_call 25; refine (CCL.out _ (Fr7.out.below (Below.refl w7.heap.size w7).drew)).mono ?_; rintro e wy ⟨⟨A7, c7, rfl, hr7⟩, hbL⟩
  have hb1 : Below w7.heap.size w7 wy := ((Below.refl w7.heap.size w7).drew).trans (hbL.mono ((Below.refl w7.heap.size w7).drew).size)
  have HR7 := Lib.hid hr7
  have HB1 := Lib.hid hb1
  clear hr7 hbL
  go_wp2_with fail
  refine hK.out _ _ ?_ (fun hHeld => ?_)
  · clear hK K; exact ⟨(hb1.cell (p := ⟨w.heap.size, 0, none⟩) Ft7.out.lt).trans Ft7.out.c0, hb1⟩
  clear hK K
  try simp only [List.getElem_toArray, List.getElem_cons_succ, List.getElem_cons_zero, Act.put, List.setIfInBounds_toArray, List.set_cons_zero, List.set_cons_succ]
  clear hb1
  refine wpAnyH_ready (rs := [3]) (by kernel_rfl) (by simp) ?_
  refine (AllReadyH.cons rfl (fun K hK => ?_) AllReadyH.nil)
  go_simp
  go_at_call 24; refine (CCS.out _ _ _ (HR7.out)).mono ?_; rintro e w' ⟨rfl, rfl⟩
  go_wp2_with fail
  refine hK.out _ _ ?_ (fun hHeld => ?_)
  · clear hK K; exact ⟨hHeld.1, HB1.out⟩
  clear hK K
  try simp only [List.getElem_toArray, List.getElem_cons_succ, List.getElem_cons_zero, Act.put, List.setIfInBounds_toArray, List.set_cons_zero, List.set_cons_succ]
  refine wpAnyH_ready (rs := [6]) (by kernel_rfl) (by simp) ?_
  refine (AllReadyH.cons rfl (fun K hK => ?_) AllReadyH.nil)
  go_simp
  go_at_call 26; refine (CSE.out _ (Fr7.out.below HB1.out)).mono ?_; rintro e wz ⟨rfl, hbE⟩
  have hb2 : Below w7.heap.size w7 wz := HB1.out.trans (hbE.mono HB1.out.size)
  clear hbE
  go_wp2_with fail
  refine hK.out _ _ ?_ (fun hHeld => ?_)
  · clear hK K; exact ⟨(hb2.cell (p := ⟨w.heap.size, 0, none⟩) Ft7.out.lt).trans Ft7.out.c0, hb2⟩
  clear hK K
  try simp only [List.getElem_toArray, List.getElem_cons_succ, List.getElem_cons_zero, Act.put, List.setIfInBounds_toArray, List.set_cons_zero, List.set_cons_succ]
  clear hb2
  refine wpAnyH_take (i := 7) (v := ?_) rfl (by kernel_rfl) (by kernel_rfl) (by kernel_rfl) (fun _ _ _ h => h) (Or.inl ⟨by rfl, ?_⟩) (by assumption) ?_
  rotate_left
  · intro w hSw; (try dsimp only at hSw); go_simp; (try (with_reducible rfl))
  try simp only [List.getElem_toArray, List.getElem_cons_succ, List.getElem_cons_zero, Act.put, List.setIfInBounds_toArray, List.set_cons_zero, List.set_cons_succ]
  refine wpAnyH_done (by kernel_rfl) ?_ _
  obtain ⟨n0, hbz⟩ := hHeld
  clear HR7 HB1
  have Ft20 := Lib.hid (Ft7.out.below hbz)
  have Fr20 := Lib.hid (Fr7.out.below hbz)
  have Fp20 := Lib.hid (Fp7.out.below hbz)
  have Fl20 := Lib.hid (Fl7.out.below hbz)
  have low20 := Lib.hid (low7.out.trans (hbz.mono low7.out.size))
  obtain ⟨w20, hw20⟩ : ∃ W, wz = W := ⟨_, rfl⟩
  subst hw20
  clear hbz n0 hgg
  have n0 : wz.cell? ⟨w.heap.size, 0, none⟩ = some (.slice A n c) := Ft20.out.c0
  have n1 : wz.cell? ⟨w.heap.size, 1, none⟩ = some (.int .i64 b) := Ft20.out.c1
  go_wp2_with fail
  refine (CTE.out _ Fr20.out).mono ?_
  rintro e w21 ⟨rfl, hb21⟩
  clear n0 n1
  have Ft21 := Lib.hid (Ft20.out.below hb21)
  have Fr21 := Lib.hid (Fr20.out.below hb21)
  have Fp21 := Lib.hid (Fp20.out.below hb21)
  have Fl21 := Lib.hid (Fl20.out.below hb21)
  have low21 := Lib.hid (low20.out.trans (hb21.mono low20.out.size))
  clear Ft20 Fr20 Fp20 Fl20 low20 hb21
  have n0 : w21.cell? ⟨w.heap.size, 0, none⟩ = some (.slice A n c) := Ft21.out.c0
  have n1 : w21.cell? ⟨w.heap.size, 1, none⟩ = some (.int .i64 b) := Ft21.out.c1
  go_wp2
  go_ret
  exact ⟨rfl, low21.out⟩

end Go.Proofs.YtofdjapbofagiaaDoor

namespace Go.Proofs.YtofdjapbofagiaaDoor
open Go.RowKit

set_option maxRecDepth 100000 in
set_option maxHeartbeats 16000000 in
theorem costs_err2 (ad : Addr) (n c : Nat) (b : Int) (rows : List (List Int)) (P : Option Addr) (k cp : Nat) (path : List Int) (limit : Int) (w : World) (hl : LaidSides w) (hr : RdGo w (some ad) n rows) (hA : P = none → k = 0 ∧ cp = 0) (hp : RdI w P k path) (hgb : gridB 40 12 rows = true) (hn42 : n ≤ 42) (hm203 : ∀ j, j < n → (rows.getD j []).length ≤ 203) (m c' : Nat) (B : Option Addr) (hck : CellAt w ad (.slice B m c')) (h0n : 0 < n) (hm12 : m ≤ 12) (htE : taskE rows b = 0) (hk : k ≤ 42) (E : Int) (hE0 : E ≠ 0) (hpe : pathE n m path = E) (hcst : cstE rows b n path = E) (hcrk : crkE rows b n path limit = E) (hcrl : crkL rows b n path limit = []) :
    Calls Tryd.prog 4 #[.agg #[.slice (some ad) n c, .int .i64 b], .slice P k cp, .int .i64 limit] w fun e w' => e = .returned (.bool true) ∧ Below w.heap.size w w' := by
  have hb0 : Below w.heap.size w (w.alloc (.cells #[.slice (some ad) n c, .int .i64 b] 53)) := (Below.refl _ _).alloc (Nat.le_refl _) _
  have HL := Lib.hid (hl.later hb0)
  have HT : Hid (TaskAt (w.alloc (.cells #[.slice (some ad) n c, .int .i64 b] 53)) w.heap.size (some ad) n c b) := Bk.new w 53 #[.slice (some ad) n c, .int .i64 b]
  have HP := Lib.hid (hp.below hb0)
  have HAP := Lib.hid hA
  have HPL : Hid (path.length = k) := hp.1
  have low0 := Lib.hid hb0
  have HR := Lib.hid ((hr.full hm203).below hb0)
  have HRO := Lib.hid (hr.below hb0)
  have HM := Lib.hid hm203
  have hkI : ¬ (42 : Int) < (k : Int) := by omega
  have CST : Hid (∀ W, RdGo W (some ad) n rows → Calls Tryd.prog 19 #[.slice (some ad) n c] W fun e w' => e = .returned (.bool true) ∧ W = w') := fun W h => by rw [← hgb]; exact strip_any _ n c rows W h
  have hpl : ([] : List (Int × Int)).length = 0 := rfl
  have HPS : Hid (([] : List (Int × Int)).length = 0) := hpl
  have CCT : Hid (∀ W, RdGN W (some ad) n rows → Calls Tryd.prog 21 #[.agg #[.slice (some ad) n c, .int .i64 b]] W fun e w' => (∃ A' c', e = .returned (.agg #[.slice A' n c', .int .i64 b]) ∧ RdGN w' A' n rows) ∧ Below W.heap.size W w') := fun W h => copyTask_any _ n c rows b W h (by omega) hm203
  have CCI : Hid (∀ W, RdI W P k path → Calls Tryd.prog 22 #[.slice P k cp] W fun e w' => (∃ A' c', e = .returned (.slice A' k c') ∧ RdI w' A' k path) ∧ Below W.heap.size W w') := fun W h => by
    refine (copyInts_any P k cp path W HAP.out h (by omega)).mono ?_
    rintro e w' ⟨⟨v, he, ho⟩, hb⟩
    rw [HPL.out] at ho
    obtain ⟨A', c', e2, _, hr', _⟩ := rd_ownN ho
    exact ⟨⟨A', c', by rw [he, e2], hr'⟩, hb⟩
  have CCO : Hid (∀ W A' c' P' cp', RdGN W A' n rows → RdI W P' k path → Calls Tryd.prog 20 #[.agg #[.slice A' n c', .int .i64 b], .slice P' k cp'] W fun e w' => e = .returned (.tuple #[.int .i64 0, .int .i64 E]) ∧ Below W.heap.size W w') := fun W A' c' P' cp' h1 h2 => by
    have h := CostOf_any A' n c' rows b P' k cp' path W h1.toG (by omega) h2 (by omega)
    rw [hcst, if_neg hE0] at h
    exact h
  have CCR : Hid (∀ W A' c' P' cp', RdGN W A' n rows → RdI W P' k path → Calls Tryd.prog 23 #[.agg #[.slice A' n c', .int .i64 b], .slice P' k cp', .int .i64 limit] W fun e w' => (∃ A' c' g', e = .returned (.tuple #[.slice A' 0 c', .int .i64 E]) ∧ (0 < 0 → A' = some ⟨g', 0, none⟩) ∧ RdR w' g' 0 []) ∧ Below W.heap.size W w') := fun W A' c' P' cp' h1 h2 => by
    have h := CracksIn_any A' n c' rows b limit P' k cp' path W h1.toG (by omega) h2 (by omega)
    rw [hcrk, hcrl] at h
    refine h.mono ?_
    rintro e w' ⟨⟨v, he, ho⟩, hb⟩
    rw [HPS.out] at ho
    obtain ⟨A2, c2, g2, e2, h3, h4⟩ := own_ranges ho HPS.out
    exact ⟨⟨A2, c2, g2, by rw [he, e2], h3, h4⟩, hb⟩
  obtain ⟨gE, hgE⟩ : ∃ gE, gridE 40 12 rows = gE := ⟨_, rfl⟩
  have CCS : Hid (∀ W A' c', RdGN W A' n rows → Calls Tryd.prog 24 #[.slice A' n c'] W fun e w' => e = .returned (.int .i64 gE) ∧ W = w') := fun W A' c' h => by rw [← hgE]; exact checkStrip_any A' n c' rows W h.toG (by omega)
  have CSE : Hid (∀ W, RdGN W (some ad) n rows → Calls Tryd.prog 26 #[.slice (some ad) n c] W fun e w' => e = .returned (.int .i64 gE) ∧ Below W.heap.size W w') := fun W h => by rw [← hgE]; exact refStripErr_any _ n c rows W h.toG (by omega)
  have CCL : Hid (∀ W, RdGN W (some ad) n rows → Calls Tryd.prog 25 #[.slice (some ad) n c] W fun e w' => (∃ A' c', e = .returned (.slice A' n c') ∧ RdGN w' A' n rows) ∧ Below W.heap.size W w') := fun W h => by
    refine (copyLists_any _ n c rows W h (by omega) hm203).mono ?_
    rintro e w' ⟨⟨v, he, ho⟩, hb⟩
    obtain ⟨A', c', e2, h2⟩ := ho.read hr.1 hm203
    exact ⟨⟨A', c', by rw [he, e2], h2⟩, hb⟩
  have CTE : Hid (∀ W, RdGN W (some ad) n rows → Calls Tryd.prog 27 #[.agg #[.slice (some ad) n c, .int .i64 b]] W fun e w' => e = .returned (.int .i64 0) ∧ Below W.heap.size W w') := fun W h => by rw [← htE]; exact refTaskErr_any _ n c rows b W h.toG (by omega)
  have hgg : (gE != gE) = false := bne_self_eq_false' _
  have CPE : Hid (∀ W, CellAt W ad (.slice B m c') → RdI W P k path → Calls Tryd.prog 28 #[.agg #[.slice (some ad) n c, .int .i64 b], .slice P k cp] W fun e w' => e = .returned (.int .i64 E) ∧ Below W.heap.size W w') := fun W h1 h2 => by
    have h := refPathErr_any ad n c m c' B b P k cp path W ⟨h0n, by omega⟩ (by omega) (by omega) h1.1 h1.2 h2
    rw [hpe] at h
    exact h
  have HCK := Lib.hid (hck.below hb0)
  have hEb : (E != 0) = true := by simpa using hE0
  have hEz : (E == 0) = false := by simpa using hE0
  have hEE : (E == E) = true := by simp
  clear hl hr hA hp hb0 hgb hm203 hcst hcrk hcrl hgE htE hpl hE0 hpe hck
  go_enter Tryd.func4, Tryd.ntmps4
  go_wp2_with fail
  refine (awake_any _ HL.out).mono ?_
  rintro e w1 ⟨rfl, hb1⟩
  have Ft1 := Lib.hid (HT.out.below hb1)
  have Fr1 := Lib.hid (HR.out.below hb1)
  have Fp1 := Lib.hid (HP.out.below hb1)
  have Fk1 := Lib.hid (HCK.out.below hb1)
  have Fo1 := Lib.hid (HRO.out.below hb1)
  have low1 := Lib.hid (low0.out.trans (hb1.mono low0.out.size))
  clear HT HR HP HCK HRO low0 HL hb1
  have n0 : w1.cell? ⟨w.heap.size, 0, none⟩ = some (.slice (some ad) n c) := Ft1.out.c0
  have n1 : w1.cell? ⟨w.heap.size, 1, none⟩ = some (.int .i64 b) := Ft1.out.c1
  go_wp2_with fail
  refine (CST.out _ Fo1.out).mono ?_
  rintro e w' ⟨rfl, rfl⟩
  go_wp2_with fail
  refine (CCT.out _ Fr1.out).mono ?_
  rintro e w2 ⟨⟨A2, c2, rfl, hr2⟩, hb2⟩
  clear n0 n1
  have Ft2 := Lib.hid (Ft1.out.below hb2)
  have Fr2 := Lib.hid (Fr1.out.below hb2)
  have Fp2 := Lib.hid (Fp1.out.below hb2)
  have Fk2 := Lib.hid (Fk1.out.below hb2)
  have low2 := Lib.hid (low1.out.trans (hb2.mono low1.out.size))
  have Fa2 := Lib.hid hr2
  clear hr2
  clear Ft1 Fr1 Fp1 Fk1 low1 hb2
  have n0 : w2.cell? ⟨w.heap.size, 0, none⟩ = some (.slice (some ad) n c) := Ft2.out.c0
  have n1 : w2.cell? ⟨w.heap.size, 1, none⟩ = some (.int .i64 b) := Ft2.out.c1
  go_wp2_with fail
  refine (CCI.out _ Fp2.out).mono ?_
  rintro e w3 ⟨⟨P3, c3, rfl, hr3⟩, hb3⟩
  clear n0 n1
  have Ft3 := Lib.hid (Ft2.out.below hb3)
  have Fr3 := Lib.hid (Fr2.out.below hb3)
  have Fp3 := Lib.hid (Fp2.out.below hb3)
  have Fk3 := Lib.hid (Fk2.out.below hb3)
  have Fa3 := Lib.hid (Fa2.out.below hb3)
  have low3 := Lib.hid (low2.out.trans (hb3.mono low2.out.size))
  have Fq3 := Lib.hid hr3
  clear hr3
  clear Ft2 Fr2 Fp2 Fk2 Fa2 low2 hb3
  have n0 : w3.cell? ⟨w.heap.size, 0, none⟩ = some (.slice (some ad) n c) := Ft3.out.c0
  have n1 : w3.cell? ⟨w.heap.size, 1, none⟩ = some (.int .i64 b) := Ft3.out.c1
  go_wp2_with fail
  refine (CCO.out _ _ _ _ _ Fa3.out Fq3.out).mono ?_
  rintro e w4 ⟨rfl, hb4⟩
  clear n0 n1
  have Ft4 := Lib.hid (Ft3.out.below hb4)
  have Fr4 := Lib.hid (Fr3.out.below hb4)
  have Fp4 := Lib.hid (Fp3.out.below hb4)
  have Fk4 := Lib.hid (Fk3.out.below hb4)
  have Fa4 := Lib.hid (Fa3.out.below hb4)
  have Fq4 := Lib.hid (Fq3.out.below hb4)
  have low4 := Lib.hid (low3.out.trans (hb4.mono low3.out.size))
  clear Ft3 Fr3 Fp3 Fk3 Fa3 Fq3 low3 hb4
  have n0 : w4.cell? ⟨w.heap.size, 0, none⟩ = some (.slice (some ad) n c) := Ft4.out.c0
  have n1 : w4.cell? ⟨w.heap.size, 1, none⟩ = some (.int .i64 b) := Ft4.out.c1
  go_wp2_with fail
  refine (CCT.out _ Fr4.out).mono ?_
  rintro e w5 ⟨⟨A5, c5, rfl, hr5⟩, hb5⟩
  clear n0 n1
  have Ft5 := Lib.hid (Ft4.out.below hb5)
  have Fr5 := Lib.hid (Fr4.out.below hb5)
  have Fp5 := Lib.hid (Fp4.out.below hb5)
  have Fk5 := Lib.hid (Fk4.out.below hb5)
  have low5 := Lib.hid (low4.out.trans (hb5.mono low4.out.size))
  have Fa5 := Lib.hid hr5
  clear hr5
  clear Ft4 Fr4 Fp4 Fk4 low4 hb5
  have n0 : w5.cell? ⟨w.heap.size, 0, none⟩ = some (.slice (some ad) n c) := Ft5.out.c0
  have n1 : w5.cell? ⟨w.heap.size, 1, none⟩ = some (.int .i64 b) := Ft5.out.c1
  go_wp2_with fail
  refine (CCI.out _ Fp5.out).mono ?_
  rintro e w6 ⟨⟨P6, c6, rfl, hr6⟩, hb6⟩
  clear n0 n1
  have Ft6 := Lib.hid (Ft5.out.below hb6)
  have Fr6 := Lib.hid (Fr5.out.below hb6)
  have Fp6 := Lib.hid (Fp5.out.below hb6)
  have Fk6 := Lib.hid (Fk5.out.below hb6)
  have Fa6 := Lib.hid (Fa5.out.below hb6)
  have low6 := Lib.hid (low5.out.trans (hb6.mono low5.out.size))
  have Fq6 := Lib.hid hr6
  clear hr6
  clear Ft5 Fr5 Fp5 Fk5 Fa5 low5 hb6
  have n0 : w6.cell? ⟨w.heap.size, 0, none⟩ = some (.slice (some ad) n c) := Ft6.out.c0
  have n1 : w6.cell? ⟨w.heap.size, 1, none⟩ = some (.int .i64 b) := Ft6.out.c1
  go_wp2_with fail
  refine (CCR.out _ _ _ _ _ Fa6.out Fq6.out).mono ?_
  rintro e w7 ⟨⟨A7r, c7r, g7, rfl, hA7, hr7r⟩, hb7⟩
  clear n0 n1
  have Ft7 := Lib.hid (Ft6.out.below hb7)
  have Fr7 := Lib.hid (Fr6.out.below hb7)
  have Fp7 := Lib.hid (Fp6.out.below hb7)
  have Fk7 := Lib.hid (Fk6.out.below hb7)
  have Fa7 := Lib.hid (Fa6.out.below hb7)
  have Fq7 := Lib.hid (Fq6.out.below hb7)
  have low7 := Lib.hid (low6.out.trans (hb7.mono low6.out.size))
  have FA7 := Lib.hid hA7
  have Fl7 := Lib.hid hr7r
  clear hr7r hA7
  clear Ft6 Fr6 Fp6 Fk6 Fa6 Fq6 low6 hb7
  have n0 : w7.cell? ⟨w.heap.size, 0, none⟩ = some (.slice (some ad) n c) := Ft7.out.c0
  have n1 : w7.cell? ⟨w.heap.size, 1, none⟩ = some (.int .i64 b) := Ft7.out.c1
  go_wp2_with fail
  refine wp_region_held_drew (S := (fun w' : World => w'.cell? ⟨w.heap.size, 0, none⟩ = some (.slice (some ad) n c) ∧ Below w7.heap.size w7 w')) (by kernel_rfl) ?_ ?_
  · exact ⟨n0, (Below.refl _ _).drew⟩
  intro hHeld
  refine wpAnyH_take (i := 0) (v := ?_) rfl (by kernel_rfl) (by kernel_rfl) (by kernel_rfl) (fun _ _ _ h => h) (Or.inl ⟨by rfl, ?_⟩) (by assumption) ?_
  rotate_left
  · intro w hSw; (try dsimp only at hSw); go_simp; (try (with_reducible rfl))
  try simp only [List.getElem_toArray, List.getElem_cons_succ, List.getElem_cons_zero, Act.put, List.setIfInBounds_toArray, List.set_cons_zero, List.set_cons_succ]
  refine wpAnyH_take (i := 1) (v := ?_) rfl (by kernel_rfl) (by kernel_rfl) (by kernel_rfl) (fun _ _ _ h => h) (Or.inl ⟨by rfl, ?_⟩) (by assumption) ?_
  rotate_left
  · intro w hSw; (try dsimp only at hSw); go_simp; (try (with_reducible rfl))
  try simp only [List.getElem_toArray, List.getElem_cons_succ, List.getElem_cons_zero, Act.put, List.setIfInBounds_toArray, List.set_cons_zero, List.set_cons_succ]
  refine wpAnyH_take (i := 4) (v := ?_) rfl (by kernel_rfl) (by kernel_rfl) (by kernel_rfl) (fun _ _ _ h => h) (Or.inl ⟨by rfl, ?_⟩) (by assumption) ?_
  rotate_left
  · intro w hSw; (try dsimp only at hSw); go_simp; (try (with_reducible rfl))
  try simp only [List.getElem_toArray, List.getElem_cons_succ, List.getElem_cons_zero, Act.put, List.setIfInBounds_toArray, List.set_cons_zero, List.set_cons_succ]
  refine wpAnyH_take (i := 5) (v := ?_) rfl (by kernel_rfl) (by kernel_rfl) (by kernel_rfl) (fun _ _ _ h => h) (Or.inl ⟨by rfl, ?_⟩) (by assumption) ?_
  rotate_left
  · intro w hSw; (try dsimp only at hSw); go_simp; (try (with_reducible rfl))
  try simp only [List.getElem_toArray, List.getElem_cons_succ, List.getElem_cons_zero, Act.put, List.setIfInBounds_toArray, List.set_cons_zero, List.set_cons_succ]
  refine wpAnyH_ready (rs := [2]) (by kernel_rfl) (by simp) ?_
  refine (AllReadyH.cons rfl (fun K hK => ?_) AllReadyH.nil)
  go_simp
  go_at_call 25; refine (CCL.out _ (Fr7.out.below (Below.refl w7.heap.size w7).drew)).mono ?_; rintro e wy ⟨⟨A7, c7, rfl, hr7⟩, hbL⟩
  have hb1 : Below w7.heap.size w7 wy := ((Below.refl w7.heap.size w7).drew).trans (hbL.mono ((Below.refl w7.heap.size w7).drew).size)
  have HR7 := Lib.hid hr7
  have HB1 := Lib.hid hb1
  clear hr7 hbL
  go_wp2_with fail
  refine hK.out _ _ ?_ (fun hHeld => ?_)
  · clear hK K; exact ⟨(hb1.cell (p := ⟨w.heap.size, 0, none⟩) Ft7.out.lt).trans Ft7.out.c0, hb1⟩
  clear hK K
  try simp only [List.getElem_toArray, List.getElem_cons_succ, List.getElem_cons_zero, Act.put, List.setIfInBounds_toArray, List.set_cons_zero, List.set_cons_succ]
  clear hb1
  refine wpAnyH_ready (rs := [3]) (by kernel_rfl) (by simp) ?_
  refine (AllReadyH.cons rfl (fun K hK => ?_) AllReadyH.nil)
  go_simp
  go_at_call 24; refine (CCS.out _ _ _ (HR7.out)).mono ?_; rintro e w' ⟨rfl, rfl⟩
  go_wp2_with fail
  refine hK.out _ _ ?_ (fun hHeld => ?_)
  · clear hK K; exact ⟨hHeld.1, HB1.out⟩
  clear hK K
  try simp only [List.getElem_toArray, List.getElem_cons_succ, List.getElem_cons_zero, Act.put, List.setIfInBounds_toArray, List.set_cons_zero, List.set_cons_succ]
  refine wpAnyH_ready (rs := [6]) (by kernel_rfl) (by simp) ?_
  refine (AllReadyH.cons rfl (fun K hK => ?_) AllReadyH.nil)
  go_simp
  go_at_call 26; refine (CSE.out _ (Fr7.out.below HB1.out)).mono ?_; rintro e wz ⟨rfl, hbE⟩
  have hb2 : Below w7.heap.size w7 wz := HB1.out.trans (hbE.mono HB1.out.size)
  clear hbE
  go_wp2_with fail
  refine hK.out _ _ ?_ (fun hHeld => ?_)
  · clear hK K; exact ⟨(hb2.cell (p := ⟨w.heap.size, 0, none⟩) Ft7.out.lt).trans Ft7.out.c0, hb2⟩
  clear hK K
  try simp only [List.getElem_toArray, List.getElem_cons_succ, List.getElem_cons_zero, Act.put, List.setIfInBounds_toArray, List.set_cons_zero, List.set_cons_succ]
  clear hb2
  refine wpAnyH_take (i := 7) (v := ?_) rfl (by kernel_rfl) (by kernel_rfl) (by kernel_rfl) (fun _ _ _ h => h) (Or.inl ⟨by rfl, ?_⟩) (by assumption) ?_
  rotate_left
  · intro w hSw; (try dsimp only at hSw); go_simp; (try (with_reducible rfl))
  try simp only [List.getElem_toArray, List.getElem_cons_succ, List.getElem_cons_zero, Act.put, List.setIfInBounds_toArray, List.set_cons_zero, List.set_cons_succ]
  refine wpAnyH_done (by kernel_rfl) ?_ _
  obtain ⟨n0, hbz⟩ := hHeld
  clear HR7 HB1
  have Ft20 := Lib.hid (Ft7.out.below hbz)
  have Fr20 := Lib.hid (Fr7.out.below hbz)
  have Fp20 := Lib.hid (Fp7.out.below hbz)
  have Fk20 := Lib.hid (Fk7.out.below hbz)
  have Fl20 := Lib.hid (Fl7.out.below hbz)
  have low20 := Lib.hid (low7.out.trans (hbz.mono low7.out.size))
  obtain ⟨w20, hw20⟩ : ∃ W, wz = W := ⟨_, rfl⟩
  subst hw20
  clear hbz n0 hgg
  have n0 : wz.cell? ⟨w.heap.size, 0, none⟩ = some (.slice (some ad) n c) := Ft20.out.c0
  have n1 : wz.cell? ⟨w.heap.size, 1, none⟩ = some (.int .i64 b) := Ft20.out.c1
  go_wp2_with fail
  refine (CTE.out _ Fr20.out).mono ?_
  rintro e w21 ⟨rfl, hb21⟩
  clear n0 n1
  have Ft21 := Lib.hid (Ft20.out.below hb21)
  have Fr21 := Lib.hid (Fr20.out.below hb21)
  have Fp21 := Lib.hid (Fp20.out.below hb21)
  have Fk21 := Lib.hid (Fk20.out.below hb21)
  have Fl21 := Lib.hid (Fl20.out.below hb21)
  have low21 := Lib.hid (low20.out.trans (hb21.mono low20.out.size))
  clear Ft20 Fr20 Fp20 Fk20 Fl20 low20 hb21
  have n0 : w21.cell? ⟨w.heap.size, 0, none⟩ = some (.slice (some ad) n c) := Ft21.out.c0
  have n1 : w21.cell? ⟨w.heap.size, 1, none⟩ = some (.int .i64 b) := Ft21.out.c1
  go_wp2_with fail
  refine (CPE.out _ Fk21.out Fp21.out).mono ?_
  rintro e w22 ⟨rfl, hb22⟩
  clear n0 n1
  have Ft22 := Lib.hid (Ft21.out.below hb22)
  have Fr22 := Lib.hid (Fr21.out.below hb22)
  have Fp22 := Lib.hid (Fp21.out.below hb22)
  have Fk22 := Lib.hid (Fk21.out.below hb22)
  have Fl22 := Lib.hid (Fl21.out.below hb22)
  have low22 := Lib.hid (low21.out.trans (hb22.mono low21.out.size))
  clear Ft21 Fr21 Fp21 Fk21 Fl21 low21 hb22
  have n0 : w22.cell? ⟨w.heap.size, 0, none⟩ = some (.slice (some ad) n c) := Ft22.out.c0
  have n1 : w22.cell? ⟨w.heap.size, 1, none⟩ = some (.int .i64 b) := Ft22.out.c1
  go_wp2
  go_ret
  exact ⟨rfl, low22.out⟩

end Go.Proofs.YtofdjapbofagiaaDoor

namespace Go.Proofs.YtofdjapbofagiaaDoor
open Go.RowKit

set_option maxRecDepth 100000 in
set_option maxHeartbeats 16000000 in
theorem costs_lim (ad : Addr) (n c : Nat) (b : Int) (rows : List (List Int)) (P : Option Addr) (cp : Nat) (path : List Int) (limit : Int) (w : World) (hl : LaidSides w) (hr : RdGo w (some ad) n rows) (hA : P = none → n = 0 ∧ cp = 0) (hp : RdI w P n path) (hgb : gridB 40 12 rows = true) (hn42 : n ≤ 42) (hm203 : ∀ j, j < n → (rows.getD j []).length ≤ 203) (m c' : Nat) (B : Option Addr) (hck : CellAt w ad (.slice B m c')) (h0n : 0 < n) (hm12 : m ≤ 12) (htE : taskE rows b = 0) (hk : n ≤ 42) (cv : Int) (hpe : pathE n m path = 0) (hcst : cstE rows b n path = 0) (hcv : costF rows b path n = cv) (hbb : 0 ≤ b ∧ b ≤ 1000) (hg : ∀ r ∈ rows, r.length = m ∧ ∀ x ∈ r, 0 ≤ x ∧ x ≤ 255) (hlim : ¬ (0 ≤ limit ∧ limit ≤ 255)) (hcrk : crkE rows b n path limit = 2) (hcrl : crkL rows b n path limit = []) :
    Calls Tryd.prog 4 #[.agg #[.slice (some ad) n c, .int .i64 b], .slice P n cp, .int .i64 limit] w fun e w' => e = .returned (.bool true) ∧ Below w.heap.size w w' := by
  have hb0 : Below w.heap.size w (w.alloc (.cells #[.slice (some ad) n c, .int .i64 b] 53)) := (Below.refl _ _).alloc (Nat.le_refl _) _
  have HL := Lib.hid (hl.later hb0)
  have HT : Hid (TaskAt (w.alloc (.cells #[.slice (some ad) n c, .int .i64 b] 53)) w.heap.size (some ad) n c b) := Bk.new w 53 #[.slice (some ad) n c, .int .i64 b]
  have HP := Lib.hid (hp.below hb0)
  have HAP := Lib.hid hA
  have HPL : Hid (path.length = n) := hp.1
  have low0 := Lib.hid hb0
  have HR := Lib.hid ((hr.full hm203).below hb0)
  have HRO := Lib.hid (hr.below hb0)
  have HM := Lib.hid hm203
  have hkI : ¬ (42 : Int) < (n : Int) := by omega
  have CST : Hid (∀ W, RdGo W (some ad) n rows → Calls Tryd.prog 19 #[.slice (some ad) n c] W fun e w' => e = .returned (.bool true) ∧ W = w') := fun W h => by rw [← hgb]; exact strip_any _ n c rows W h
  have hpl : ([] : List (Int × Int)).length = 0 := rfl
  have HPS : Hid (([] : List (Int × Int)).length = 0) := hpl
  have CCT : Hid (∀ W, RdGN W (some ad) n rows → Calls Tryd.prog 21 #[.agg #[.slice (some ad) n c, .int .i64 b]] W fun e w' => (∃ A' c', e = .returned (.agg #[.slice A' n c', .int .i64 b]) ∧ RdGN w' A' n rows) ∧ Below W.heap.size W w') := fun W h => copyTask_any _ n c rows b W h (by omega) hm203
  have CCI : Hid (∀ W, RdI W P n path → Calls Tryd.prog 22 #[.slice P n cp] W fun e w' => (∃ A' c', e = .returned (.slice A' n c') ∧ RdI w' A' n path) ∧ Below W.heap.size W w') := fun W h => by
    refine (copyInts_any P n cp path W HAP.out h (by omega)).mono ?_
    rintro e w' ⟨⟨v, he, ho⟩, hb⟩
    rw [HPL.out] at ho
    obtain ⟨A', c', e2, _, hr', _⟩ := rd_ownN ho
    exact ⟨⟨A', c', by rw [he, e2], hr'⟩, hb⟩
  have CCO : Hid (∀ W A' c' P' cp', RdGN W A' n rows → RdI W P' n path → Calls Tryd.prog 20 #[.agg #[.slice A' n c', .int .i64 b], .slice P' n cp'] W fun e w' => e = .returned (.tuple #[.int .i64 cv, .int .i64 0]) ∧ Below W.heap.size W w') := fun W A' c' P' cp' h1 h2 => by
    have h := CostOf_any A' n c' rows b P' n cp' path W h1.toG (by omega) h2 (by omega)
    rw [hcst, if_pos rfl, hcv] at h
    exact h
  have CCR : Hid (∀ W A' c' P' cp', RdGN W A' n rows → RdI W P' n path → Calls Tryd.prog 23 #[.agg #[.slice A' n c', .int .i64 b], .slice P' n cp', .int .i64 limit] W fun e w' => (∃ A' c' g', e = .returned (.tuple #[.slice A' 0 c', .int .i64 2]) ∧ (0 < 0 → A' = some ⟨g', 0, none⟩) ∧ RdR w' g' 0 []) ∧ Below W.heap.size W w') := fun W A' c' P' cp' h1 h2 => by
    have h := CracksIn_any A' n c' rows b limit P' n cp' path W h1.toG (by omega) h2 (by omega)
    rw [hcrk, hcrl] at h
    refine h.mono ?_
    rintro e w' ⟨⟨v, he, ho⟩, hb⟩
    rw [HPS.out] at ho
    obtain ⟨A2, c2, g2, e2, h3, h4⟩ := own_ranges ho HPS.out
    exact ⟨⟨A2, c2, g2, by rw [he, e2], h3, h4⟩, hb⟩
  obtain ⟨gE, hgE⟩ : ∃ gE, gridE 40 12 rows = gE := ⟨_, rfl⟩
  have CCS : Hid (∀ W A' c', RdGN W A' n rows → Calls Tryd.prog 24 #[.slice A' n c'] W fun e w' => e = .returned (.int .i64 gE) ∧ W = w') := fun W A' c' h => by rw [← hgE]; exact checkStrip_any A' n c' rows W h.toG (by omega)
  have CSE : Hid (∀ W, RdGN W (some ad) n rows → Calls Tryd.prog 26 #[.slice (some ad) n c] W fun e w' => e = .returned (.int .i64 gE) ∧ Below W.heap.size W w') := fun W h => by rw [← hgE]; exact refStripErr_any _ n c rows W h.toG (by omega)
  have CCL : Hid (∀ W, RdGN W (some ad) n rows → Calls Tryd.prog 25 #[.slice (some ad) n c] W fun e w' => (∃ A' c', e = .returned (.slice A' n c') ∧ RdGN w' A' n rows) ∧ Below W.heap.size W w') := fun W h => by
    refine (copyLists_any _ n c rows W h (by omega) hm203).mono ?_
    rintro e w' ⟨⟨v, he, ho⟩, hb⟩
    obtain ⟨A', c', e2, h2⟩ := ho.read hr.1 hm203
    exact ⟨⟨A', c', by rw [he, e2], h2⟩, hb⟩
  have CTE : Hid (∀ W, RdGN W (some ad) n rows → Calls Tryd.prog 27 #[.agg #[.slice (some ad) n c, .int .i64 b]] W fun e w' => e = .returned (.int .i64 0) ∧ Below W.heap.size W w') := fun W h => by rw [← htE]; exact refTaskErr_any _ n c rows b W h.toG (by omega)
  have hgg : (gE != gE) = false := bne_self_eq_false' _
  have CPE : Hid (∀ W, CellAt W ad (.slice B m c') → RdI W P n path → Calls Tryd.prog 28 #[.agg #[.slice (some ad) n c, .int .i64 b], .slice P n cp] W fun e w' => e = .returned (.int .i64 0) ∧ Below W.heap.size W w') := fun W h1 h2 => by
    have h := refPathErr_any ad n c m c' B b P n cp path W ⟨h0n, by omega⟩ (by omega) (by omega) h1.1 h1.2 h2
    rw [hpe] at h
    exact h
  have HCK := Lib.hid (hck.below hb0)
  have CCC : Hid (∀ W, RdGN W (some ad) n rows → RdI W P n path → Calls Tryd.prog 29 #[.agg #[.slice (some ad) n c, .int .i64 b], .slice P n cp] W fun e w' => e = .returned (.int .i64 cv) ∧ Below W.heap.size W w') := fun W h1 h2 => by
    have h := refCost_any ad n c m rows b P cp path W h1.toG ⟨h0n, by omega⟩ (by omega) h2 hpe hg hbb
    rw [hcv] at h
    exact h
  have hcc : (cv != cv) = false := bne_self_eq_false' _
  have CWL : Hid (∀ W, Calls Tryd.prog 30 #[.int .i64 limit, .int .i64 0, .int .i64 255] W fun e w' => e = .returned (.bool false) ∧ W = w') := fun W => by
    have h := within_any limit 0 255 W
    rw [show fromB 0 255 [limit] = false by rw [Bool.eq_false_iff]; intro e; exact hlim (fromB_one.1 e)] at h
    exact h
  clear hl hr hA hp hb0 hgb hm203 hcst hcrk hcrl hgE htE hpl hpe hck hg hbb hcv hlim
  go_enter Tryd.func4, Tryd.ntmps4
  go_wp2_with fail
  refine (awake_any _ HL.out).mono ?_
  rintro e w1 ⟨rfl, hb1⟩
  have Ft1 := Lib.hid (HT.out.below hb1)
  have Fr1 := Lib.hid (HR.out.below hb1)
  have Fp1 := Lib.hid (HP.out.below hb1)
  have Fk1 := Lib.hid (HCK.out.below hb1)
  have Fo1 := Lib.hid (HRO.out.below hb1)
  have low1 := Lib.hid (low0.out.trans (hb1.mono low0.out.size))
  clear HT HR HP HCK HRO low0 HL hb1
  have n0 : w1.cell? ⟨w.heap.size, 0, none⟩ = some (.slice (some ad) n c) := Ft1.out.c0
  have n1 : w1.cell? ⟨w.heap.size, 1, none⟩ = some (.int .i64 b) := Ft1.out.c1
  go_wp2_with fail
  refine (CST.out _ Fo1.out).mono ?_
  rintro e w' ⟨rfl, rfl⟩
  go_wp2_with fail
  refine (CCT.out _ Fr1.out).mono ?_
  rintro e w2 ⟨⟨A2, c2, rfl, hr2⟩, hb2⟩
  clear n0 n1
  have Ft2 := Lib.hid (Ft1.out.below hb2)
  have Fr2 := Lib.hid (Fr1.out.below hb2)
  have Fp2 := Lib.hid (Fp1.out.below hb2)
  have Fk2 := Lib.hid (Fk1.out.below hb2)
  have low2 := Lib.hid (low1.out.trans (hb2.mono low1.out.size))
  have Fa2 := Lib.hid hr2
  clear hr2
  clear Ft1 Fr1 Fp1 Fk1 low1 hb2
  have n0 : w2.cell? ⟨w.heap.size, 0, none⟩ = some (.slice (some ad) n c) := Ft2.out.c0
  have n1 : w2.cell? ⟨w.heap.size, 1, none⟩ = some (.int .i64 b) := Ft2.out.c1
  go_wp2_with fail
  refine (CCI.out _ Fp2.out).mono ?_
  rintro e w3 ⟨⟨P3, c3, rfl, hr3⟩, hb3⟩
  clear n0 n1
  have Ft3 := Lib.hid (Ft2.out.below hb3)
  have Fr3 := Lib.hid (Fr2.out.below hb3)
  have Fp3 := Lib.hid (Fp2.out.below hb3)
  have Fk3 := Lib.hid (Fk2.out.below hb3)
  have Fa3 := Lib.hid (Fa2.out.below hb3)
  have low3 := Lib.hid (low2.out.trans (hb3.mono low2.out.size))
  have Fq3 := Lib.hid hr3
  clear hr3
  clear Ft2 Fr2 Fp2 Fk2 Fa2 low2 hb3
  have n0 : w3.cell? ⟨w.heap.size, 0, none⟩ = some (.slice (some ad) n c) := Ft3.out.c0
  have n1 : w3.cell? ⟨w.heap.size, 1, none⟩ = some (.int .i64 b) := Ft3.out.c1
  go_wp2_with fail
  refine (CCO.out _ _ _ _ _ Fa3.out Fq3.out).mono ?_
  rintro e w4 ⟨rfl, hb4⟩
  clear n0 n1
  have Ft4 := Lib.hid (Ft3.out.below hb4)
  have Fr4 := Lib.hid (Fr3.out.below hb4)
  have Fp4 := Lib.hid (Fp3.out.below hb4)
  have Fk4 := Lib.hid (Fk3.out.below hb4)
  have Fa4 := Lib.hid (Fa3.out.below hb4)
  have Fq4 := Lib.hid (Fq3.out.below hb4)
  have low4 := Lib.hid (low3.out.trans (hb4.mono low3.out.size))
  clear Ft3 Fr3 Fp3 Fk3 Fa3 Fq3 low3 hb4
  have n0 : w4.cell? ⟨w.heap.size, 0, none⟩ = some (.slice (some ad) n c) := Ft4.out.c0
  have n1 : w4.cell? ⟨w.heap.size, 1, none⟩ = some (.int .i64 b) := Ft4.out.c1
  go_wp2_with fail
  refine (CCT.out _ Fr4.out).mono ?_
  rintro e w5 ⟨⟨A5, c5, rfl, hr5⟩, hb5⟩
  clear n0 n1
  have Ft5 := Lib.hid (Ft4.out.below hb5)
  have Fr5 := Lib.hid (Fr4.out.below hb5)
  have Fp5 := Lib.hid (Fp4.out.below hb5)
  have Fk5 := Lib.hid (Fk4.out.below hb5)
  have low5 := Lib.hid (low4.out.trans (hb5.mono low4.out.size))
  have Fa5 := Lib.hid hr5
  clear hr5
  clear Ft4 Fr4 Fp4 Fk4 low4 hb5
  have n0 : w5.cell? ⟨w.heap.size, 0, none⟩ = some (.slice (some ad) n c) := Ft5.out.c0
  have n1 : w5.cell? ⟨w.heap.size, 1, none⟩ = some (.int .i64 b) := Ft5.out.c1
  go_wp2_with fail
  refine (CCI.out _ Fp5.out).mono ?_
  rintro e w6 ⟨⟨P6, c6, rfl, hr6⟩, hb6⟩
  clear n0 n1
  have Ft6 := Lib.hid (Ft5.out.below hb6)
  have Fr6 := Lib.hid (Fr5.out.below hb6)
  have Fp6 := Lib.hid (Fp5.out.below hb6)
  have Fk6 := Lib.hid (Fk5.out.below hb6)
  have Fa6 := Lib.hid (Fa5.out.below hb6)
  have low6 := Lib.hid (low5.out.trans (hb6.mono low5.out.size))
  have Fq6 := Lib.hid hr6
  clear hr6
  clear Ft5 Fr5 Fp5 Fk5 Fa5 low5 hb6
  have n0 : w6.cell? ⟨w.heap.size, 0, none⟩ = some (.slice (some ad) n c) := Ft6.out.c0
  have n1 : w6.cell? ⟨w.heap.size, 1, none⟩ = some (.int .i64 b) := Ft6.out.c1
  go_wp2_with fail
  refine (CCR.out _ _ _ _ _ Fa6.out Fq6.out).mono ?_
  rintro e w7 ⟨⟨A7r, c7r, g7, rfl, hA7, hr7r⟩, hb7⟩
  clear n0 n1
  have Ft7 := Lib.hid (Ft6.out.below hb7)
  have Fr7 := Lib.hid (Fr6.out.below hb7)
  have Fp7 := Lib.hid (Fp6.out.below hb7)
  have Fk7 := Lib.hid (Fk6.out.below hb7)
  have Fa7 := Lib.hid (Fa6.out.below hb7)
  have Fq7 := Lib.hid (Fq6.out.below hb7)
  have low7 := Lib.hid (low6.out.trans (hb7.mono low6.out.size))
  have FA7 := Lib.hid hA7
  have Fl7 := Lib.hid hr7r
  clear hr7r hA7
  clear Ft6 Fr6 Fp6 Fk6 Fa6 Fq6 low6 hb7
  have n0 : w7.cell? ⟨w.heap.size, 0, none⟩ = some (.slice (some ad) n c) := Ft7.out.c0
  have n1 : w7.cell? ⟨w.heap.size, 1, none⟩ = some (.int .i64 b) := Ft7.out.c1
  go_wp2_with fail
  refine wp_region_held_drew (S := (fun w' : World => w'.cell? ⟨w.heap.size, 0, none⟩ = some (.slice (some ad) n c) ∧ Below w7.heap.size w7 w')) (by kernel_rfl) ?_ ?_
  · exact ⟨n0, (Below.refl _ _).drew⟩
  intro hHeld
  refine wpAnyH_take (i := 0) (v := ?_) rfl (by kernel_rfl) (by kernel_rfl) (by kernel_rfl) (fun _ _ _ h => h) (Or.inl ⟨by rfl, ?_⟩) (by assumption) ?_
  rotate_left
  · intro w hSw; (try dsimp only at hSw); go_simp; (try (with_reducible rfl))
  try simp only [List.getElem_toArray, List.getElem_cons_succ, List.getElem_cons_zero, Act.put, List.setIfInBounds_toArray, List.set_cons_zero, List.set_cons_succ]
  refine wpAnyH_take (i := 1) (v := ?_) rfl (by kernel_rfl) (by kernel_rfl) (by kernel_rfl) (fun _ _ _ h => h) (Or.inl ⟨by rfl, ?_⟩) (by assumption) ?_
  rotate_left
  · intro w hSw; (try dsimp only at hSw); go_simp; (try (with_reducible rfl))
  try simp only [List.getElem_toArray, List.getElem_cons_succ, List.getElem_cons_zero, Act.put, List.setIfInBounds_toArray, List.set_cons_zero, List.set_cons_succ]
  refine wpAnyH_take (i := 4) (v := ?_) rfl (by kernel_rfl) (by kernel_rfl) (by kernel_rfl) (fun _ _ _ h => h) (Or.inl ⟨by rfl, ?_⟩) (by assumption) ?_
  rotate_left
  · intro w hSw; (try dsimp only at hSw); go_simp; (try (with_reducible rfl))
  try simp only [List.getElem_toArray, List.getElem_cons_succ, List.getElem_cons_zero, Act.put, List.setIfInBounds_toArray, List.set_cons_zero, List.set_cons_succ]
  refine wpAnyH_take (i := 5) (v := ?_) rfl (by kernel_rfl) (by kernel_rfl) (by kernel_rfl) (fun _ _ _ h => h) (Or.inl ⟨by rfl, ?_⟩) (by assumption) ?_
  rotate_left
  · intro w hSw; (try dsimp only at hSw); go_simp; (try (with_reducible rfl))
  try simp only [List.getElem_toArray, List.getElem_cons_succ, List.getElem_cons_zero, Act.put, List.setIfInBounds_toArray, List.set_cons_zero, List.set_cons_succ]
  refine wpAnyH_ready (rs := [2]) (by kernel_rfl) (by simp) ?_
  refine (AllReadyH.cons rfl (fun K hK => ?_) AllReadyH.nil)
  go_simp
  go_at_call 25; refine (CCL.out _ (Fr7.out.below (Below.refl w7.heap.size w7).drew)).mono ?_; rintro e wy ⟨⟨A7, c7, rfl, hr7⟩, hbL⟩
  have hb1 : Below w7.heap.size w7 wy := ((Below.refl w7.heap.size w7).drew).trans (hbL.mono ((Below.refl w7.heap.size w7).drew).size)
  have HR7 := Lib.hid hr7
  have HB1 := Lib.hid hb1
  clear hr7 hbL
  go_wp2_with fail
  refine hK.out _ _ ?_ (fun hHeld => ?_)
  · clear hK K; exact ⟨(hb1.cell (p := ⟨w.heap.size, 0, none⟩) Ft7.out.lt).trans Ft7.out.c0, hb1⟩
  clear hK K
  try simp only [List.getElem_toArray, List.getElem_cons_succ, List.getElem_cons_zero, Act.put, List.setIfInBounds_toArray, List.set_cons_zero, List.set_cons_succ]
  clear hb1
  refine wpAnyH_ready (rs := [3]) (by kernel_rfl) (by simp) ?_
  refine (AllReadyH.cons rfl (fun K hK => ?_) AllReadyH.nil)
  go_simp
  go_at_call 24; refine (CCS.out _ _ _ (HR7.out)).mono ?_; rintro e w' ⟨rfl, rfl⟩
  go_wp2_with fail
  refine hK.out _ _ ?_ (fun hHeld => ?_)
  · clear hK K; exact ⟨hHeld.1, HB1.out⟩
  clear hK K
  try simp only [List.getElem_toArray, List.getElem_cons_succ, List.getElem_cons_zero, Act.put, List.setIfInBounds_toArray, List.set_cons_zero, List.set_cons_succ]
  refine wpAnyH_ready (rs := [6]) (by kernel_rfl) (by simp) ?_
  refine (AllReadyH.cons rfl (fun K hK => ?_) AllReadyH.nil)
  go_simp
  go_at_call 26; refine (CSE.out _ (Fr7.out.below HB1.out)).mono ?_; rintro e wz ⟨rfl, hbE⟩
  have hb2 : Below w7.heap.size w7 wz := HB1.out.trans (hbE.mono HB1.out.size)
  clear hbE
  go_wp2_with fail
  refine hK.out _ _ ?_ (fun hHeld => ?_)
  · clear hK K; exact ⟨(hb2.cell (p := ⟨w.heap.size, 0, none⟩) Ft7.out.lt).trans Ft7.out.c0, hb2⟩
  clear hK K
  try simp only [List.getElem_toArray, List.getElem_cons_succ, List.getElem_cons_zero, Act.put, List.setIfInBounds_toArray, List.set_cons_zero, List.set_cons_succ]
  clear hb2
  refine wpAnyH_take (i := 7) (v := ?_) rfl (by kernel_rfl) (by kernel_rfl) (by kernel_rfl) (fun _ _ _ h => h) (Or.inl ⟨by rfl, ?_⟩) (by assumption) ?_
  rotate_left
  · intro w hSw; (try dsimp only at hSw); go_simp; (try (with_reducible rfl))
  try simp only [List.getElem_toArray, List.getElem_cons_succ, List.getElem_cons_zero, Act.put, List.setIfInBounds_toArray, List.set_cons_zero, List.set_cons_succ]
  refine wpAnyH_done (by kernel_rfl) ?_ _
  obtain ⟨n0, hbz⟩ := hHeld
  clear HR7 HB1
  have Ft20 := Lib.hid (Ft7.out.below hbz)
  have Fr20 := Lib.hid (Fr7.out.below hbz)
  have Fp20 := Lib.hid (Fp7.out.below hbz)
  have Fk20 := Lib.hid (Fk7.out.below hbz)
  have Fl20 := Lib.hid (Fl7.out.below hbz)
  have low20 := Lib.hid (low7.out.trans (hbz.mono low7.out.size))
  obtain ⟨w20, hw20⟩ : ∃ W, wz = W := ⟨_, rfl⟩
  subst hw20
  clear hbz n0 hgg
  have n0 : wz.cell? ⟨w.heap.size, 0, none⟩ = some (.slice (some ad) n c) := Ft20.out.c0
  have n1 : wz.cell? ⟨w.heap.size, 1, none⟩ = some (.int .i64 b) := Ft20.out.c1
  go_wp2_with fail
  refine (CTE.out _ Fr20.out).mono ?_
  rintro e w21 ⟨rfl, hb21⟩
  clear n0 n1
  have Ft21 := Lib.hid (Ft20.out.below hb21)
  have Fr21 := Lib.hid (Fr20.out.below hb21)
  have Fp21 := Lib.hid (Fp20.out.below hb21)
  have Fk21 := Lib.hid (Fk20.out.below hb21)
  have Fl21 := Lib.hid (Fl20.out.below hb21)
  have low21 := Lib.hid (low20.out.trans (hb21.mono low20.out.size))
  clear Ft20 Fr20 Fp20 Fk20 Fl20 low20 hb21
  have n0 : w21.cell? ⟨w.heap.size, 0, none⟩ = some (.slice (some ad) n c) := Ft21.out.c0
  have n1 : w21.cell? ⟨w.heap.size, 1, none⟩ = some (.int .i64 b) := Ft21.out.c1
  go_wp2_with fail
  refine (CPE.out _ Fk21.out Fp21.out).mono ?_
  rintro e w22 ⟨rfl, hb22⟩
  clear n0 n1
  have Ft22 := Lib.hid (Ft21.out.below hb22)
  have Fr22 := Lib.hid (Fr21.out.below hb22)
  have Fp22 := Lib.hid (Fp21.out.below hb22)
  have Fk22 := Lib.hid (Fk21.out.below hb22)
  have Fl22 := Lib.hid (Fl21.out.below hb22)
  have low22 := Lib.hid (low21.out.trans (hb22.mono low21.out.size))
  clear Ft21 Fr21 Fp21 Fk21 Fl21 low21 hb22
  have n0 : w22.cell? ⟨w.heap.size, 0, none⟩ = some (.slice (some ad) n c) := Ft22.out.c0
  have n1 : w22.cell? ⟨w.heap.size, 1, none⟩ = some (.int .i64 b) := Ft22.out.c1
  go_wp2_with fail
  refine (CCC.out _ Fr22.out Fp22.out).mono ?_
  rintro e w23 ⟨rfl, hb23⟩
  clear n0 n1
  have Ft23 := Lib.hid (Ft22.out.below hb23)
  have Fr23 := Lib.hid (Fr22.out.below hb23)
  have Fp23 := Lib.hid (Fp22.out.below hb23)
  have Fk23 := Lib.hid (Fk22.out.below hb23)
  have Fl23 := Lib.hid (Fl22.out.below hb23)
  have low23 := Lib.hid (low22.out.trans (hb23.mono low22.out.size))
  clear Ft22 Fr22 Fp22 Fk22 Fl22 low22 hb23
  have n0 : w23.cell? ⟨w.heap.size, 0, none⟩ = some (.slice (some ad) n c) := Ft23.out.c0
  have n1 : w23.cell? ⟨w.heap.size, 1, none⟩ = some (.int .i64 b) := Ft23.out.c1
  go_wp2_with fail
  refine (CWL.out _).mono ?_
  rintro e w' ⟨rfl, rfl⟩
  go_wp2
  go_ret
  exact ⟨rfl, low23.out⟩

end Go.Proofs.YtofdjapbofagiaaDoor

namespace Go.Proofs.YtofdjapbofagiaaDoor
open Go.RowKit

set_option maxRecDepth 100000 in
set_option maxHeartbeats 16000000 in
theorem costs_ok (ad : Addr) (n c : Nat) (b : Int) (rows : List (List Int)) (P : Option Addr) (cp : Nat) (path : List Int) (limit : Int) (w : World) (hl : LaidSides w) (hr : RdGo w (some ad) n rows) (hA : P = none → n = 0 ∧ cp = 0) (hp : RdI w P n path) (hgb : gridB 40 12 rows = true) (hn42 : n ≤ 42) (hm203 : ∀ j, j < n → (rows.getD j []).length ≤ 203) (m c' : Nat) (B : Option Addr) (hck : CellAt w ad (.slice B m c')) (h0n : 0 < n) (hm12 : m ≤ 12) (htE : taskE rows b = 0) (hk : n ≤ 42) (cv : Int) (hpe : pathE n m path = 0) (hcst : cstE rows b n path = 0) (hcv : costF rows b path n = cv) (hbb : 0 ≤ b ∧ b ≤ 1000) (hg : ∀ r ∈ rows, r.length = m ∧ ∀ x ∈ r, 0 ≤ x ∧ x ≤ 255) (hlim : 0 ≤ limit ∧ limit ≤ 255) (ps : List (Int × Int)) (pl : Nat) (hpl : ps.length = pl) (hpb : pl ≤ 42) (hcrf : crF rows path limit n = ps) (hcrk : crkE rows b n path limit = 0) (hcrl : crkL rows b n path limit = ps) :
    Calls Tryd.prog 4 #[.agg #[.slice (some ad) n c, .int .i64 b], .slice P n cp, .int .i64 limit] w fun e w' => e = .returned (.bool true) ∧ Below w.heap.size w w' := by
  have hb0 : Below w.heap.size w (w.alloc (.cells #[.slice (some ad) n c, .int .i64 b] 53)) := (Below.refl _ _).alloc (Nat.le_refl _) _
  have HL := Lib.hid (hl.later hb0)
  have HT : Hid (TaskAt (w.alloc (.cells #[.slice (some ad) n c, .int .i64 b] 53)) w.heap.size (some ad) n c b) := Bk.new w 53 #[.slice (some ad) n c, .int .i64 b]
  have HP := Lib.hid (hp.below hb0)
  have HAP := Lib.hid hA
  have HPL : Hid (path.length = n) := hp.1
  have low0 := Lib.hid hb0
  have HR := Lib.hid ((hr.full hm203).below hb0)
  have HRO := Lib.hid (hr.below hb0)
  have HM := Lib.hid hm203
  have hkI : ¬ (42 : Int) < (n : Int) := by omega
  have CST : Hid (∀ W, RdGo W (some ad) n rows → Calls Tryd.prog 19 #[.slice (some ad) n c] W fun e w' => e = .returned (.bool true) ∧ W = w') := fun W h => by rw [← hgb]; exact strip_any _ n c rows W h
  have HPS : Hid ((ps : List (Int × Int)).length = pl) := hpl
  have CCT : Hid (∀ W, RdGN W (some ad) n rows → Calls Tryd.prog 21 #[.agg #[.slice (some ad) n c, .int .i64 b]] W fun e w' => (∃ A' c', e = .returned (.agg #[.slice A' n c', .int .i64 b]) ∧ RdGN w' A' n rows) ∧ Below W.heap.size W w') := fun W h => copyTask_any _ n c rows b W h (by omega) hm203
  have CCI : Hid (∀ W, RdI W P n path → Calls Tryd.prog 22 #[.slice P n cp] W fun e w' => (∃ A' c', e = .returned (.slice A' n c') ∧ RdI w' A' n path) ∧ Below W.heap.size W w') := fun W h => by
    refine (copyInts_any P n cp path W HAP.out h (by omega)).mono ?_
    rintro e w' ⟨⟨v, he, ho⟩, hb⟩
    rw [HPL.out] at ho
    obtain ⟨A', c', e2, _, hr', _⟩ := rd_ownN ho
    exact ⟨⟨A', c', by rw [he, e2], hr'⟩, hb⟩
  have CCO : Hid (∀ W A' c' P' cp', RdGN W A' n rows → RdI W P' n path → Calls Tryd.prog 20 #[.agg #[.slice A' n c', .int .i64 b], .slice P' n cp'] W fun e w' => e = .returned (.tuple #[.int .i64 cv, .int .i64 0]) ∧ Below W.heap.size W w') := fun W A' c' P' cp' h1 h2 => by
    have h := CostOf_any A' n c' rows b P' n cp' path W h1.toG (by omega) h2 (by omega)
    rw [hcst, if_pos rfl, hcv] at h
    exact h
  have CCR : Hid (∀ W A' c' P' cp', RdGN W A' n rows → RdI W P' n path → Calls Tryd.prog 23 #[.agg #[.slice A' n c', .int .i64 b], .slice P' n cp', .int .i64 limit] W fun e w' => (∃ A' c' g', e = .returned (.tuple #[.slice A' pl c', .int .i64 0]) ∧ (0 < pl → A' = some ⟨g', 0, none⟩) ∧ RdR w' g' pl ps) ∧ Below W.heap.size W w') := fun W A' c' P' cp' h1 h2 => by
    have h := CracksIn_any A' n c' rows b limit P' n cp' path W h1.toG (by omega) h2 (by omega)
    rw [hcrk, hcrl] at h
    refine h.mono ?_
    rintro e w' ⟨⟨v, he, ho⟩, hb⟩
    rw [HPS.out] at ho
    obtain ⟨A2, c2, g2, e2, h3, h4⟩ := own_ranges ho HPS.out
    exact ⟨⟨A2, c2, g2, by rw [he, e2], h3, h4⟩, hb⟩
  obtain ⟨gE, hgE⟩ : ∃ gE, gridE 40 12 rows = gE := ⟨_, rfl⟩
  have CCS : Hid (∀ W A' c', RdGN W A' n rows → Calls Tryd.prog 24 #[.slice A' n c'] W fun e w' => e = .returned (.int .i64 gE) ∧ W = w') := fun W A' c' h => by rw [← hgE]; exact checkStrip_any A' n c' rows W h.toG (by omega)
  have CSE : Hid (∀ W, RdGN W (some ad) n rows → Calls Tryd.prog 26 #[.slice (some ad) n c] W fun e w' => e = .returned (.int .i64 gE) ∧ Below W.heap.size W w') := fun W h => by rw [← hgE]; exact refStripErr_any _ n c rows W h.toG (by omega)
  have CCL : Hid (∀ W, RdGN W (some ad) n rows → Calls Tryd.prog 25 #[.slice (some ad) n c] W fun e w' => (∃ A' c', e = .returned (.slice A' n c') ∧ RdGN w' A' n rows) ∧ Below W.heap.size W w') := fun W h => by
    refine (copyLists_any _ n c rows W h (by omega) hm203).mono ?_
    rintro e w' ⟨⟨v, he, ho⟩, hb⟩
    obtain ⟨A', c', e2, h2⟩ := ho.read hr.1 hm203
    exact ⟨⟨A', c', by rw [he, e2], h2⟩, hb⟩
  have CTE : Hid (∀ W, RdGN W (some ad) n rows → Calls Tryd.prog 27 #[.agg #[.slice (some ad) n c, .int .i64 b]] W fun e w' => e = .returned (.int .i64 0) ∧ Below W.heap.size W w') := fun W h => by rw [← htE]; exact refTaskErr_any _ n c rows b W h.toG (by omega)
  have hgg : (gE != gE) = false := bne_self_eq_false' _
  have CPE : Hid (∀ W, CellAt W ad (.slice B m c') → RdI W P n path → Calls Tryd.prog 28 #[.agg #[.slice (some ad) n c, .int .i64 b], .slice P n cp] W fun e w' => e = .returned (.int .i64 0) ∧ Below W.heap.size W w') := fun W h1 h2 => by
    have h := refPathErr_any ad n c m c' B b P n cp path W ⟨h0n, by omega⟩ (by omega) (by omega) h1.1 h1.2 h2
    rw [hpe] at h
    exact h
  have HCK := Lib.hid (hck.below hb0)
  have CCC : Hid (∀ W, RdGN W (some ad) n rows → RdI W P n path → Calls Tryd.prog 29 #[.agg #[.slice (some ad) n c, .int .i64 b], .slice P n cp] W fun e w' => e = .returned (.int .i64 cv) ∧ Below W.heap.size W w') := fun W h1 h2 => by
    have h := refCost_any ad n c m rows b P cp path W h1.toG ⟨h0n, by omega⟩ (by omega) h2 hpe hg hbb
    rw [hcv] at h
    exact h
  have hcc : (cv != cv) = false := bne_self_eq_false' _
  have CCK : Hid (∀ W, RdGN W (some ad) n rows → RdI W P n path → Calls Tryd.prog 32 #[.agg #[.slice (some ad) n c, .int .i64 b], .slice P n cp, .int .i64 limit] W fun e w' => (∃ A' c' g', e = .returned (.slice A' pl c') ∧ (0 < pl → A' = some ⟨g', 0, none⟩) ∧ RdR w' g' pl ps) ∧ Below W.heap.size W w') := fun W h1 h2 => by
    have h := refCracks_any ad n c m rows b P cp path W h1.toG ⟨h0n, by omega⟩ (by omega) h2 hpe hg limit
    rw [hcrf] at h
    refine h.mono ?_
    rintro e w' ⟨⟨v, he, ho⟩, hb⟩
    rw [hpl] at ho
    obtain ⟨A2, c2, g2, e2, h3, h4⟩ := own_ranges ho hpl
    exact ⟨⟨A2, c2, g2, by rw [he, e2], h3, h4⟩, hb⟩
  have CWL : Hid (∀ W, Calls Tryd.prog 30 #[.int .i64 limit, .int .i64 0, .int .i64 255] W fun e w' => e = .returned (.bool true) ∧ W = w') := fun W => by
    have h := within_any limit 0 255 W
    rw [show fromB 0 255 [limit] = true by rw [fromB_one]; exact hlim] at h
    exact h
  clear hl hr hA hp hb0 hgb hm203 hcst hcrk hcrl hcrf hgE htE hpl hpe hck hg hbb hcv hlim
  go_enter Tryd.func4, Tryd.ntmps4
  go_wp2_with fail
  refine (awake_any _ HL.out).mono ?_
  rintro e w1 ⟨rfl, hb1⟩
  have Ft1 := Lib.hid (HT.out.below hb1)
  have Fr1 := Lib.hid (HR.out.below hb1)
  have Fp1 := Lib.hid (HP.out.below hb1)
  have Fk1 := Lib.hid (HCK.out.below hb1)
  have Fo1 := Lib.hid (HRO.out.below hb1)
  have low1 := Lib.hid (low0.out.trans (hb1.mono low0.out.size))
  clear HT HR HP HCK HRO low0 HL hb1
  have n0 : w1.cell? ⟨w.heap.size, 0, none⟩ = some (.slice (some ad) n c) := Ft1.out.c0
  have n1 : w1.cell? ⟨w.heap.size, 1, none⟩ = some (.int .i64 b) := Ft1.out.c1
  go_wp2_with fail
  refine (CST.out _ Fo1.out).mono ?_
  rintro e w' ⟨rfl, rfl⟩
  go_wp2_with fail
  refine (CCT.out _ Fr1.out).mono ?_
  rintro e w2 ⟨⟨A2, c2, rfl, hr2⟩, hb2⟩
  clear n0 n1
  have Ft2 := Lib.hid (Ft1.out.below hb2)
  have Fr2 := Lib.hid (Fr1.out.below hb2)
  have Fp2 := Lib.hid (Fp1.out.below hb2)
  have Fk2 := Lib.hid (Fk1.out.below hb2)
  have low2 := Lib.hid (low1.out.trans (hb2.mono low1.out.size))
  have Fa2 := Lib.hid hr2
  clear hr2
  clear Ft1 Fr1 Fp1 Fk1 low1 hb2
  have n0 : w2.cell? ⟨w.heap.size, 0, none⟩ = some (.slice (some ad) n c) := Ft2.out.c0
  have n1 : w2.cell? ⟨w.heap.size, 1, none⟩ = some (.int .i64 b) := Ft2.out.c1
  go_wp2_with fail
  refine (CCI.out _ Fp2.out).mono ?_
  rintro e w3 ⟨⟨P3, c3, rfl, hr3⟩, hb3⟩
  clear n0 n1
  have Ft3 := Lib.hid (Ft2.out.below hb3)
  have Fr3 := Lib.hid (Fr2.out.below hb3)
  have Fp3 := Lib.hid (Fp2.out.below hb3)
  have Fk3 := Lib.hid (Fk2.out.below hb3)
  have Fa3 := Lib.hid (Fa2.out.below hb3)
  have low3 := Lib.hid (low2.out.trans (hb3.mono low2.out.size))
  have Fq3 := Lib.hid hr3
  clear hr3
  clear Ft2 Fr2 Fp2 Fk2 Fa2 low2 hb3
  have n0 : w3.cell? ⟨w.heap.size, 0, none⟩ = some (.slice (some ad) n c) := Ft3.out.c0
  have n1 : w3.cell? ⟨w.heap.size, 1, none⟩ = some (.int .i64 b) := Ft3.out.c1
  go_wp2_with fail
  refine (CCO.out _ _ _ _ _ Fa3.out Fq3.out).mono ?_
  rintro e w4 ⟨rfl, hb4⟩
  clear n0 n1
  have Ft4 := Lib.hid (Ft3.out.below hb4)
  have Fr4 := Lib.hid (Fr3.out.below hb4)
  have Fp4 := Lib.hid (Fp3.out.below hb4)
  have Fk4 := Lib.hid (Fk3.out.below hb4)
  have Fa4 := Lib.hid (Fa3.out.below hb4)
  have Fq4 := Lib.hid (Fq3.out.below hb4)
  have low4 := Lib.hid (low3.out.trans (hb4.mono low3.out.size))
  clear Ft3 Fr3 Fp3 Fk3 Fa3 Fq3 low3 hb4
  have n0 : w4.cell? ⟨w.heap.size, 0, none⟩ = some (.slice (some ad) n c) := Ft4.out.c0
  have n1 : w4.cell? ⟨w.heap.size, 1, none⟩ = some (.int .i64 b) := Ft4.out.c1
  go_wp2_with fail
  refine (CCT.out _ Fr4.out).mono ?_
  rintro e w5 ⟨⟨A5, c5, rfl, hr5⟩, hb5⟩
  clear n0 n1
  have Ft5 := Lib.hid (Ft4.out.below hb5)
  have Fr5 := Lib.hid (Fr4.out.below hb5)
  have Fp5 := Lib.hid (Fp4.out.below hb5)
  have Fk5 := Lib.hid (Fk4.out.below hb5)
  have low5 := Lib.hid (low4.out.trans (hb5.mono low4.out.size))
  have Fa5 := Lib.hid hr5
  clear hr5
  clear Ft4 Fr4 Fp4 Fk4 low4 hb5
  have n0 : w5.cell? ⟨w.heap.size, 0, none⟩ = some (.slice (some ad) n c) := Ft5.out.c0
  have n1 : w5.cell? ⟨w.heap.size, 1, none⟩ = some (.int .i64 b) := Ft5.out.c1
  go_wp2_with fail
  refine (CCI.out _ Fp5.out).mono ?_
  rintro e w6 ⟨⟨P6, c6, rfl, hr6⟩, hb6⟩
  clear n0 n1
  have Ft6 := Lib.hid (Ft5.out.below hb6)
  have Fr6 := Lib.hid (Fr5.out.below hb6)
  have Fp6 := Lib.hid (Fp5.out.below hb6)
  have Fk6 := Lib.hid (Fk5.out.below hb6)
  have Fa6 := Lib.hid (Fa5.out.below hb6)
  have low6 := Lib.hid (low5.out.trans (hb6.mono low5.out.size))
  have Fq6 := Lib.hid hr6
  clear hr6
  clear Ft5 Fr5 Fp5 Fk5 Fa5 low5 hb6
  have n0 : w6.cell? ⟨w.heap.size, 0, none⟩ = some (.slice (some ad) n c) := Ft6.out.c0
  have n1 : w6.cell? ⟨w.heap.size, 1, none⟩ = some (.int .i64 b) := Ft6.out.c1
  go_wp2_with fail
  refine (CCR.out _ _ _ _ _ Fa6.out Fq6.out).mono ?_
  rintro e w7 ⟨⟨A7r, c7r, g7, rfl, hA7, hr7r⟩, hb7⟩
  clear n0 n1
  have Ft7 := Lib.hid (Ft6.out.below hb7)
  have Fr7 := Lib.hid (Fr6.out.below hb7)
  have Fp7 := Lib.hid (Fp6.out.below hb7)
  have Fk7 := Lib.hid (Fk6.out.below hb7)
  have Fa7 := Lib.hid (Fa6.out.below hb7)
  have Fq7 := Lib.hid (Fq6.out.below hb7)
  have low7 := Lib.hid (low6.out.trans (hb7.mono low6.out.size))
  have FA7 := Lib.hid hA7
  have Fl7 := Lib.hid hr7r
  clear hr7r hA7
  clear Ft6 Fr6 Fp6 Fk6 Fa6 Fq6 low6 hb7
  have n0 : w7.cell? ⟨w.heap.size, 0, none⟩ = some (.slice (some ad) n c) := Ft7.out.c0
  have n1 : w7.cell? ⟨w.heap.size, 1, none⟩ = some (.int .i64 b) := Ft7.out.c1
  go_wp2_with fail
  refine wp_region_held_drew (S := (fun w' : World => w'.cell? ⟨w.heap.size, 0, none⟩ = some (.slice (some ad) n c) ∧ Below w7.heap.size w7 w')) (by kernel_rfl) ?_ ?_
  · exact ⟨n0, (Below.refl _ _).drew⟩
  intro hHeld
  refine wpAnyH_take (i := 0) (v := ?_) rfl (by kernel_rfl) (by kernel_rfl) (by kernel_rfl) (fun _ _ _ h => h) (Or.inl ⟨by rfl, ?_⟩) (by assumption) ?_
  rotate_left
  · intro w hSw; (try dsimp only at hSw); go_simp; (try (with_reducible rfl))
  try simp only [List.getElem_toArray, List.getElem_cons_succ, List.getElem_cons_zero, Act.put, List.setIfInBounds_toArray, List.set_cons_zero, List.set_cons_succ]
  refine wpAnyH_take (i := 1) (v := ?_) rfl (by kernel_rfl) (by kernel_rfl) (by kernel_rfl) (fun _ _ _ h => h) (Or.inl ⟨by rfl, ?_⟩) (by assumption) ?_
  rotate_left
  · intro w hSw; (try dsimp only at hSw); go_simp; (try (with_reducible rfl))
  try simp only [List.getElem_toArray, List.getElem_cons_succ, List.getElem_cons_zero, Act.put, List.setIfInBounds_toArray, List.set_cons_zero, List.set_cons_succ]
  refine wpAnyH_take (i := 4) (v := ?_) rfl (by kernel_rfl) (by kernel_rfl) (by kernel_rfl) (fun _ _ _ h => h) (Or.inl ⟨by rfl, ?_⟩) (by assumption) ?_
  rotate_left
  · intro w hSw; (try dsimp only at hSw); go_simp; (try (with_reducible rfl))
  try simp only [List.getElem_toArray, List.getElem_cons_succ, List.getElem_cons_zero, Act.put, List.setIfInBounds_toArray, List.set_cons_zero, List.set_cons_succ]
  refine wpAnyH_take (i := 5) (v := ?_) rfl (by kernel_rfl) (by kernel_rfl) (by kernel_rfl) (fun _ _ _ h => h) (Or.inl ⟨by rfl, ?_⟩) (by assumption) ?_
  rotate_left
  · intro w hSw; (try dsimp only at hSw); go_simp; (try (with_reducible rfl))
  try simp only [List.getElem_toArray, List.getElem_cons_succ, List.getElem_cons_zero, Act.put, List.setIfInBounds_toArray, List.set_cons_zero, List.set_cons_succ]
  refine wpAnyH_ready (rs := [2]) (by kernel_rfl) (by simp) ?_
  refine (AllReadyH.cons rfl (fun K hK => ?_) AllReadyH.nil)
  go_simp
  go_at_call 25; refine (CCL.out _ (Fr7.out.below (Below.refl w7.heap.size w7).drew)).mono ?_; rintro e wy ⟨⟨A7, c7, rfl, hr7⟩, hbL⟩
  have hb1 : Below w7.heap.size w7 wy := ((Below.refl w7.heap.size w7).drew).trans (hbL.mono ((Below.refl w7.heap.size w7).drew).size)
  have HR7 := Lib.hid hr7
  have HB1 := Lib.hid hb1
  clear hr7 hbL
  go_wp2_with fail
  refine hK.out _ _ ?_ (fun hHeld => ?_)
  · clear hK K; exact ⟨(hb1.cell (p := ⟨w.heap.size, 0, none⟩) Ft7.out.lt).trans Ft7.out.c0, hb1⟩
  clear hK K
  try simp only [List.getElem_toArray, List.getElem_cons_succ, List.getElem_cons_zero, Act.put, List.setIfInBounds_toArray, List.set_cons_zero, List.set_cons_succ]
  clear hb1
  refine wpAnyH_ready (rs := [3]) (by kernel_rfl) (by simp) ?_
  refine (AllReadyH.cons rfl (fun K hK => ?_) AllReadyH.nil)
  go_simp
  go_at_call 24; refine (CCS.out _ _ _ (HR7.out)).mono ?_; rintro e w' ⟨rfl, rfl⟩
  go_wp2_with fail
  refine hK.out _ _ ?_ (fun hHeld => ?_)
  · clear hK K; exact ⟨hHeld.1, HB1.out⟩
  clear hK K
  try simp only [List.getElem_toArray, List.getElem_cons_succ, List.getElem_cons_zero, Act.put, List.setIfInBounds_toArray, List.set_cons_zero, List.set_cons_succ]
  refine wpAnyH_ready (rs := [6]) (by kernel_rfl) (by simp) ?_
  refine (AllReadyH.cons rfl (fun K hK => ?_) AllReadyH.nil)
  go_simp
  go_at_call 26; refine (CSE.out _ (Fr7.out.below HB1.out)).mono ?_; rintro e wz ⟨rfl, hbE⟩
  have hb2 : Below w7.heap.size w7 wz := HB1.out.trans (hbE.mono HB1.out.size)
  clear hbE
  go_wp2_with fail
  refine hK.out _ _ ?_ (fun hHeld => ?_)
  · clear hK K; exact ⟨(hb2.cell (p := ⟨w.heap.size, 0, none⟩) Ft7.out.lt).trans Ft7.out.c0, hb2⟩
  clear hK K
  try simp only [List.getElem_toArray, List.getElem_cons_succ, List.getElem_cons_zero, Act.put, List.setIfInBounds_toArray, List.set_cons_zero, List.set_cons_succ]
  clear hb2
  refine wpAnyH_take (i := 7) (v := ?_) rfl (by kernel_rfl) (by kernel_rfl) (by kernel_rfl) (fun _ _ _ h => h) (Or.inl ⟨by rfl, ?_⟩) (by assumption) ?_
  rotate_left
  · intro w hSw; (try dsimp only at hSw); go_simp; (try (with_reducible rfl))
  try simp only [List.getElem_toArray, List.getElem_cons_succ, List.getElem_cons_zero, Act.put, List.setIfInBounds_toArray, List.set_cons_zero, List.set_cons_succ]
  refine wpAnyH_done (by kernel_rfl) ?_ _
  obtain ⟨n0, hbz⟩ := hHeld
  clear HR7 HB1
  have Ft20 := Lib.hid (Ft7.out.below hbz)
  have Fr20 := Lib.hid (Fr7.out.below hbz)
  have Fp20 := Lib.hid (Fp7.out.below hbz)
  have Fk20 := Lib.hid (Fk7.out.below hbz)
  have Fl20 := Lib.hid (Fl7.out.below hbz)
  have low20 := Lib.hid (low7.out.trans (hbz.mono low7.out.size))
  obtain ⟨w20, hw20⟩ : ∃ W, wz = W := ⟨_, rfl⟩
  subst hw20
  clear hbz n0 hgg
  have n0 : wz.cell? ⟨w.heap.size, 0, none⟩ = some (.slice (some ad) n c) := Ft20.out.c0
  have n1 : wz.cell? ⟨w.heap.size, 1, none⟩ = some (.int .i64 b) := Ft20.out.c1
  go_wp2_with fail
  refine (CTE.out _ Fr20.out).mono ?_
  rintro e w21 ⟨rfl, hb21⟩
  clear n0 n1
  have Ft21 := Lib.hid (Ft20.out.below hb21)
  have Fr21 := Lib.hid (Fr20.out.below hb21)
  have Fp21 := Lib.hid (Fp20.out.below hb21)
  have Fk21 := Lib.hid (Fk20.out.below hb21)
  have Fl21 := Lib.hid (Fl20.out.below hb21)
  have low21 := Lib.hid (low20.out.trans (hb21.mono low20.out.size))
  clear Ft20 Fr20 Fp20 Fk20 Fl20 low20 hb21
  have n0 : w21.cell? ⟨w.heap.size, 0, none⟩ = some (.slice (some ad) n c) := Ft21.out.c0
  have n1 : w21.cell? ⟨w.heap.size, 1, none⟩ = some (.int .i64 b) := Ft21.out.c1
  go_wp2_with fail
  refine (CPE.out _ Fk21.out Fp21.out).mono ?_
  rintro e w22 ⟨rfl, hb22⟩
  clear n0 n1
  have Ft22 := Lib.hid (Ft21.out.below hb22)
  have Fr22 := Lib.hid (Fr21.out.below hb22)
  have Fp22 := Lib.hid (Fp21.out.below hb22)
  have Fk22 := Lib.hid (Fk21.out.below hb22)
  have Fl22 := Lib.hid (Fl21.out.below hb22)
  have low22 := Lib.hid (low21.out.trans (hb22.mono low21.out.size))
  clear Ft21 Fr21 Fp21 Fk21 Fl21 low21 hb22
  have n0 : w22.cell? ⟨w.heap.size, 0, none⟩ = some (.slice (some ad) n c) := Ft22.out.c0
  have n1 : w22.cell? ⟨w.heap.size, 1, none⟩ = some (.int .i64 b) := Ft22.out.c1
  go_wp2_with fail
  refine (CCC.out _ Fr22.out Fp22.out).mono ?_
  rintro e w23 ⟨rfl, hb23⟩
  clear n0 n1
  have Ft23 := Lib.hid (Ft22.out.below hb23)
  have Fr23 := Lib.hid (Fr22.out.below hb23)
  have Fp23 := Lib.hid (Fp22.out.below hb23)
  have Fk23 := Lib.hid (Fk22.out.below hb23)
  have Fl23 := Lib.hid (Fl22.out.below hb23)
  have low23 := Lib.hid (low22.out.trans (hb23.mono low22.out.size))
  clear Ft22 Fr22 Fp22 Fk22 Fl22 low22 hb23
  have n0 : w23.cell? ⟨w.heap.size, 0, none⟩ = some (.slice (some ad) n c) := Ft23.out.c0
  have n1 : w23.cell? ⟨w.heap.size, 1, none⟩ = some (.int .i64 b) := Ft23.out.c1
  go_wp2_with fail
  refine (CWL.out _).mono ?_
  rintro e w' ⟨rfl, rfl⟩
  go_wp2_with fail
  refine (CCK.out _ Fr23.out Fp23.out).mono ?_
  rintro e w24 ⟨⟨A9, c9, g9, rfl, hA9, hr9⟩, hb24⟩
  clear n0 n1
  have Ft24 := Lib.hid (Ft23.out.below hb24)
  have Fr24 := Lib.hid (Fr23.out.below hb24)
  have Fp24 := Lib.hid (Fp23.out.below hb24)
  have Fk24 := Lib.hid (Fk23.out.below hb24)
  have Fl24 := Lib.hid (Fl23.out.below hb24)
  have low24 := Lib.hid (low23.out.trans (hb24.mono low23.out.size))
  have FA9 := Lib.hid hA9
  have Fz24 := Lib.hid hr9
  clear hr9 hA9
  clear Ft23 Fr23 Fp23 Fk23 Fl23 low23 hb24
  have n0 : w24.cell? ⟨w.heap.size, 0, none⟩ = some (.slice (some ad) n c) := Ft24.out.c0
  have n1 : w24.cell? ⟨w.heap.size, 1, none⟩ = some (.int .i64 b) := Ft24.out.c1
  go_wp2_with fail
  refine (ranges_same _ _ g7 g9 pl _ _ ps _ Fl24.out Fz24.out (by omega) FA7.out FA9.out).mono ?_
  rintro e w25 ⟨rfl, hb25⟩
  clear n0 n1
  have Ft25 := Lib.hid (Ft24.out.below hb25)
  have Fr25 := Lib.hid (Fr24.out.below hb25)
  have Fp25 := Lib.hid (Fp24.out.below hb25)
  have Fk25 := Lib.hid (Fk24.out.below hb25)
  have Fl25 := Lib.hid (Fl24.out.below hb25)
  have Fz25 := Lib.hid (Fz24.out.below hb25)
  have low25 := Lib.hid (low24.out.trans (hb25.mono low24.out.size))
  clear Ft24 Fr24 Fp24 Fk24 Fl24 Fz24 low24 hb25
  have n0 : w25.cell? ⟨w.heap.size, 0, none⟩ = some (.slice (some ad) n c) := Ft25.out.c0
  have n1 : w25.cell? ⟨w.heap.size, 1, none⟩ = some (.int .i64 b) := Ft25.out.c1
  go_wp2
  go_ret
  exact ⟨rfl, low25.out⟩

end Go.Proofs.YtofdjapbofagiaaDoor

namespace Go.Proofs.YtofdjapbofagiaaDoor
open Go.RowKit

theorem costs_walk (A : Option Addr) (n c : Nat) (b : Int) (rows : List (List Int)) (P : Option Addr) (k cp : Nat) (path : List Int) (limit : Int) (w : World) (hl : LaidSides w) (hr : RdGo w A n rows) (hA : P = none → k = 0 ∧ cp = 0) (hp : RdI w P k path) :
    Calls Tryd.prog 4 #[.agg #[.slice A n c, .int .i64 b], .slice P k cp, .int .i64 limit] w fun e w' => e = .returned (.bool true) ∧ Below w.heap.size w w' := by
  cases hgb : gridB 40 12 rows with
  | false => exact costs_wide A n c b rows P k cp path limit w hl hr hA hp hgb
  | true =>
    obtain ⟨h1, h2⟩ := gridB_parts hgb
    rw [hr.1] at h1 h2
    have hm203 : ∀ j, j < n → (rows.getD j []).length ≤ 203 := fun j hj => by have := h2 j hj; omega
    by_cases hk : k ≤ 42
    · by_cases hE : taskE rows b = 0
      · obtain ⟨ad, m, c', B, rfl, hcm, h0, h40, hm0, hm12, hadb, hck, hbb, hg⟩ := task_parts (hr.full hm203).toG hE
        have hc : cstE rows b n path = pathE n m path := by unfold cstE; rw [if_pos hE, hcm]
        by_cases hpe : pathE n m path = 0
        · have hkn : k = n := by rw [← hp.1, (path_in hpe).1]
          subst hkn
          rw [hpe] at hc
          by_cases hlim : 0 ≤ limit ∧ limit ≤ 255
          · have e : crkE rows b k path limit = 0 := by unfold crkE; rw [if_pos hc, if_pos hlim]
            have hcl := crF_length rows path limit k
            exact costs_ok ad k c b rows P cp path limit w hl hr hA hp hgb h1 hm203 m c' B ⟨hadb, hck⟩ h0 hm12 hE hk _ hpe hc rfl hbb hg hlim (crF rows path limit k) _ rfl (by omega) rfl e (by unfold crkL; rw [if_pos e])
          · have e : crkE rows b k path limit = 2 := by unfold crkE; rw [if_pos hc, if_neg hlim]
            exact costs_lim ad k c b rows P cp path limit w hl hr hA hp hgb h1 hm203 m c' B ⟨hadb, hck⟩ h0 hm12 hE hk _ hpe hc rfl hbb hg hlim e (by unfold crkL; rw [if_neg (by rw [e]; decide)])
        · have e : crkE rows b n path limit = pathE n m path := by unfold crkE; rw [if_neg (by rw [hc]; exact hpe), hc]
          exact costs_err2 ad n c b rows P k cp path limit w hl hr hA hp hgb h1 hm203 m c' B ⟨hadb, hck⟩ h0 hm12 hE hk _ hpe rfl hc e (by unfold crkL; rw [if_neg (by rw [e]; exact hpe)])
      · have hc : cstE rows b n path = taskE rows b := by unfold cstE; rw [if_neg hE]
        have e : crkE rows b n path limit = taskE rows b := by unfold crkE; rw [if_neg (by rw [hc]; exact hE), hc]
        exact costs_err1 A n c b rows P k cp path limit w hl hr hA hp hgb h1 hm203 hk _ hE rfl hc e (by unfold crkL; rw [if_neg (by rw [e]; exact hE)])
    · exact costs_long A n c b rows P k cp path limit w hl hr hA hp hgb hk

end Go.Proofs.YtofdjapbofagiaaDoor

