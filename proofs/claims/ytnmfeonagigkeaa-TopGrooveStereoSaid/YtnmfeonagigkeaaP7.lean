import Derived.Test.YtnmfeonagigkeaaP6
namespace Go.Proofs.Ytnmfeonagigkeaa
open Go.RowKit

/-- A slice of integers of the call's own, a number, and an error. -/
def OwnRes3 (w : World) (E m : Int) (xs : List Int) (e : Ending) (w' : World) : Prop :=
  (∃ v, e = .returned (.tuple #[v, .int .i64 m, .int .i64 E]) ∧ w'.ownsRow w.heap.size 3 1 v xs.length (xs.map (Value.int .i64))) ∧ Below w.heap.size w w'
theorem OwnRes3.none_ {w w' : World} {E : Int} (h : Below w.heap.size w w') : OwnRes3 w E 0 [] (.returned (.tuple #[.slice none 0 0, .int .i64 0, .int .i64 E])) w' := ⟨⟨_, rfl, World.ownsRow_nil _ _ _ _⟩, h⟩

def colsOf (rows : List (List Int)) : Nat := (rows.getD 0 []).length
def bestL (rows : List (List Int)) (b : Int) : List Int × Int := if taskE rows b = 0 then bestTo (fun _ _ => true) b (colsOf rows) rows (colsOf rows) else ([], 0)
def turnT (rows : List (List Int)) (b pitch : Int) : List Int × Int := bestTo (fun f l => decide ((l : Int) = (f : Int) + pitch)) b (colsOf rows) rows (colsOf rows)
def turnE (rows : List (List Int)) (b pitch : Int) : Int := if taskE rows b = 0 then (if fromB (-12) 12 [pitch] = true then (if (turnT rows b pitch).1.length = 0 then 12 else 0) else 2) else taskE rows b
def turnL (rows : List (List Int)) (b pitch : Int) : List Int × Int := if turnE rows b pitch = 0 then turnT rows b pitch else ([], 0)

theorem task_ok {rows : List (List Int)} {b : Int} (h : taskE rows b = 0) : gridE 40 12 rows = 0 ∧ 0 ≤ b ∧ b ≤ 1000 := by
  unfold taskE at h
  by_cases h0 : gridE 40 12 rows = 0
  · rw [if_pos h0] at h
    by_cases h1 : fromB 0 1000 [b] = true
    · exact ⟨h0, fromB_one.1 h1⟩
    · rw [if_neg h1] at h; omega
  · rw [if_neg h0] at h; exact absurd h h0
theorem row_bounds {rows : List (List Int)} {m : Nat} (h : ∀ r ∈ rows, r.length = m ∧ fromB 0 255 r = true) : ∀ r ∈ rows, r.length = m ∧ ∀ x ∈ r, 0 ≤ x ∧ x ≤ 255 := fun r hr => by
  refine ⟨(h r hr).1, fun x hx => ?_⟩
  have := (h r hr).2
  unfold fromB at this
  rw [List.all_eq_true] at this
  simpa using this x hx

set_option maxRecDepth 100000 in
set_option maxHeartbeats 2000000 in
theorem BestPath_any (A : Option Addr) (n c : Nat) (rows : List (List Int)) (b : Int) (w : World) (hr : RdG w A n rows) (hn : n ≤ 9223372036854775806) :
    Calls Try.prog 13 #[.agg #[.slice A n c, .int .i64 b]] w (OwnRes3 w (taskE rows b) (bestL rows b).2 (bestL rows b).1) := by
  have hb0 : Below w.heap.size w (w.alloc (.cells #[.slice A n c, .int .i64 b] 48)) := (Below.refl _ w).alloc (Nat.le_refl _) _
  by_cases hE : taskE rows b = 0
  · obtain ⟨hg, hbb⟩ := task_ok hE
    obtain ⟨m, g1, g2, g3, g4, g5, g6⟩ := grid_ok hg
    have hln := hr.1
    obtain ⟨ad, rfl, hadb, hc⟩ := hr.2 (by omega)
    obtain ⟨B, m', c', hck, hrow, _⟩ := hc 0 (by omega)
    obtain rfl : m' = m := by rw [← hrow.1, g5]
    rw [addZ] at hck
    have CC := Lib.hid (checked_ok ad n c m' c' B rows b _ (hr.below hb0) hn (Nat.lt_of_lt_of_le hadb hb0.size) ((hb0.cell hadb).trans hck) (by omega) hE)
    have HG := Lib.hid hr
    have HRB := Lib.hid (row_bounds g6)
    have HB0 := Lib.hid hb0
    have hbl : bestL rows b = bestTo (fun _ _ => true) b m' rows m' := by unfold bestL colsOf; rw [if_pos hE, g5]
    rw [hbl, hE]
    have hm12 : 0 < m' ∧ m' ≤ 12 := ⟨g2, g4⟩
    have hn40 : 0 < n ∧ n ≤ 40 := by omega
    clear hr hb0 hE hg hc hck hrow g5 g6 hbl hln
    obtain ⟨⟨xs, ls⟩, hbt⟩ : ∃ s, bestTo (fun _ _ => true) b m' rows m' = s := ⟨_, rfl⟩
    rw [hbt]
    have HBT := Lib.hid hbt
    clear hbt
    go_enter Try.func13, Try.ntmps13
    go_wp2_with fail
    refine CC.out.mono ?_
    rintro e w1 ⟨rfl, hb1⟩
    have HB1 : Hid (Below w.heap.size w w1) := HB0.out.trans (hb1.mono HB0.out.size)
    have HCL : Hid (Calls Try.prog 28 #[.agg #[.slice (some ad) n c, .int .i64 b, .int .i64 m'], .func (.func 29) #[] #[]] (w1.alloc (.cells #[.slice (some ad) n c, .int .i64 b, .int .i64 m'] 63)) (OwnRes (w1.alloc (.cells #[.slice (some ad) n c, .int .i64 b, .int .i64 m'] 63)) ls xs)) := by
      have h := leastPath_any (some ad) n c m' rows b 29 #[] (fun _ _ => true) (w1.alloc (.cells #[.slice (some ad) n c, .int .i64 b, .int .i64 m'] 63)) (HG.out.below (HB1.out.alloc HB1.out.size _)) hn40 hm12 HRB.out hbb
        (fun f l W p1 p2 _ _ _ h1 h2 => lp1_best f l W p1 p2 h1 h2)
      rw [HBT.out] at h
      exact h
    clear hb1 CC
    go_wp2_with fail
    refine HCL.out.mono ?_
    rintro e w2 ⟨⟨v, rfl, hown⟩, hb2⟩
    have HO := Lib.hid hown
    have HB2 : Hid (Below w.heap.size w w2) := HB1.out.trans ((((Below.refl _ w1).alloc (Nat.le_refl _) _).trans (hb2.mono (by simp))).mono HB1.out.size)
    have hz : w.heap.size ≤ (w1.alloc (.cells #[.slice (some ad) n c, .int .i64 b, .int .i64 m'] 63)).heap.size := by have := HB1.out.size; simp; omega
    clear hown hb2 HCL
    go_wp2
    go_ret3
    exact ⟨⟨_, rfl, ownMono HO.out hz⟩, HB2.out⟩
  · have CC := Lib.hid (checked_err A n c rows b _ (hr.below hb0) hn hE)
    have hbl : bestL rows b = ([], 0) := by unfold bestL; rw [if_neg hE]
    rw [hbl]
    obtain ⟨E, hEe⟩ : ∃ E, taskE rows b = E := ⟨_, rfl⟩
    rw [hEe] at hE CC ⊢
    have h1 : (E != 0) = true := by simpa using hE
    have HB0 := Lib.hid hb0
    clear hr hb0 hE hEe hbl
    go_enter Try.func13, Try.ntmps13
    go_wp2_with fail
    refine CC.out.mono ?_
    rintro e w1 ⟨rfl, hb1⟩
    have HB1 : Hid (Below w.heap.size w w1) := HB0.out.trans (hb1.mono HB0.out.size)
    clear hb1 CC
    go_wp2
    go_ret3
    exact OwnRes3.none_ (HB1.out.alloc HB1.out.size _)

end Go.Proofs.Ytnmfeonagigkeaa
