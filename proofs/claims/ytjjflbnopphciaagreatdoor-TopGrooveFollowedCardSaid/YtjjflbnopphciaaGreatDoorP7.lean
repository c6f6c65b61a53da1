import Derived.Test.YtjjflbnopphciaaGreatDoorP6
namespace Go.Proofs.YtjjflbnopphciaaGreatDoor
open Go.RowKit

/-- A slice of integers of the call's own, a number, and an error. -/
def OwnRes3 (w : World) (E m : Int) (xs : List Int) (e : Ending) (w' : World) : Prop :=
  (∃ v, e = .returned (.tuple #[v, .int .i64 m, .int .i64 E]) ∧ w'.ownsRow w.heap.size 3 1 v xs.length (xs.map (Value.int .i64))) ∧ Below w.heap.size w w'
theorem OwnRes3.none_ {w w' : World} {E : Int} (h : Below w.heap.size w w') : OwnRes3 w E 0 [] (.returned (.tuple #[.slice none 0 0, .int .i64 0, .int .i64 E])) w' := ⟨⟨_, rfl, World.ownsRow_nil _ _ _ _⟩, h⟩

def colsOf (rows : List (List Int)) : Nat := (rows.getD 0 []).length
def bestL (rows : List (List Int)) (b : Int) : List Int × Int := if taskE rows b = 0 then bestTo (fun _ _ => true) b (colsOf rows) rows (colsOf rows) else ([], 0)
def turnT (rows : List (List Int)) (b pitch : Int) : List Int × Int := bestTo (fun f l => decide ((l : Int) = (f : Int) + pitch)) b (colsOf rows) rows (colsOf rows)
def turnE (rows : List (List Int)) (b pitch : Int) : Int := if taskE rows b = 0 then (if fromB (-12) 12 [pitch] = true then (if (turnT rows b pitch).1.length = 0 then 12 else 0) else 2) else taskE rows b
def turnL (rows : List (List Int)) (b pitch : Int) : List Int × Int := if turnE rows b pitch = 0 then turnT rows b pitch else ([], 0)

theorem task_ok {rows : List (List Int)} {b : Int} (h : taskE rows b = 0) : gridE 40 12 rows = 0 ∧ 0 ≤ b ∧ b ≤ 1000 := by
  unfold taskE at h
  by_cases h0 : gridE 40 12 rows = 0
  · rw [if_pos h0] at h
    by_cases h1 : fromB 0 1000 [b] = true
    · exact ⟨h0, fromB_one.1 h1⟩
    · rw [if_neg h1] at h; omega
  · rw [if_neg h0] at h; exact absurd h h0
theorem row_bounds {rows : List (List Int)} {m : Nat} (h : ∀ r ∈ rows, r.length = m ∧ fromB 0 255 r = true) : ∀ r ∈ rows, r.length = m ∧ ∀ x ∈ r, 0 ≤ x ∧ x ≤ 255 := fun r hr => by
  refine ⟨(h r hr).1, fun x hx => ?_⟩
  have := (h r hr).2
  unfold fromB at this
  rw [List.all_eq_true] at this
  simpa using this x hx

set_option maxRecDepth 100000 in
set_option maxHeartbeats 2000000 in
theorem BestPath_any (A : Option Addr) (n c : Nat) (rows : List (List Int)) (b : Int) (w : World) (hr : RdG w A n rows) (hn : n ≤ 9223372036854775806) :
    Calls Tryz.prog 20 #[.agg #[.slice A n c, .int .i64 b]] w (OwnRes3 w (taskE rows b) (bestL rows b).2 (bestL rows b).1) := by
  have hb0 : Below w.heap.size w (w.alloc (.cells #[.slice A n c, .int .i64 b] 55)) := (Below.refl _ w).alloc (Nat.le_refl _) _
  by_cases hE : taskE rows b = 0
  · obtain ⟨hg, hbb⟩ := task_ok hE
    obtain ⟨m, g1, g2, g3, g4, g5, g6⟩ := grid_ok hg
    have hln := hr.1
    obtain ⟨ad, rfl, hadb, hc⟩ := hr.2 (by omega)
    obtain ⟨B, m', c', hck, hrow, _⟩ := hc 0 (by omega)
    obtain rfl : m' = m := by rw [← hrow.1, g5]
    rw [addZ] at hck
    have CC := Lib.hid (checked_ok ad n c m' c' B rows b _ (hr.below hb0) hn (Nat.lt_of_lt_of_le hadb hb0.size) ((hb0.cell hadb).trans hck) (by omega) hE)
    have HG := Lib.hid hr
    have HRB := Lib.hid (row_bounds g6)
    have HB0 := Lib.hid hb0
    have hbl : bestL rows b = bestTo (fun _ _ => true) b m' rows m' := by unfold bestL colsOf; rw [if_pos hE, g5]
    rw [hbl, hE]
    have hm12 : 0 < m' ∧ m' ≤ 12 := ⟨g2, g4⟩
    have hn40 : 0 < n ∧ n ≤ 40 := by omega
    clear hr hb0 hE hg hc hck hrow g5 g6 hbl hln
    obtain ⟨⟨xs, ls⟩, hbt⟩ : ∃ s, bestTo (fun _ _ => true) b m' rows m' = s := ⟨_, rfl⟩
    rw [hbt]
    have HBT := Lib.hid hbt
    clear hbt
    go_enter Tryz.func20, Tryz.ntmps20
    go_wp2_with fail
    refine CC.out.mono ?_
    rintro e w1 ⟨rfl, hb1⟩
    have HB1 : Hid (Below w.heap.size w w1) := HB0.out.trans (hb1.mono HB0.out.size)
    have HCL : Hid (Calls Tryz.prog 50 #[.agg #[.slice (some ad) n c, .int .i64 b, .int .i64 m'], .func (.func 51) #[] #[]] (w1.alloc (.cells #[.slice (some ad) n c, .int .i64 b, .int .i64 m'] 104)) (OwnRes (w1.alloc (.cells #[.slice (some ad) n c, .int .i64 b, .int .i64 m'] 104)) ls xs)) := by
      have h := leastPath_any (some ad) n c m' rows b 51 #[] (fun _ _ => true) (w1.alloc (.cells #[.slice (some ad) n c, .int .i64 b, .int .i64 m'] 104)) (HG.out.below (HB1.out.alloc HB1.out.size _)) hn40 hm12 HRB.out hbb
        (fun f l W p1 p2 _ _ _ h1 h2 => lp1_best f l W p1 p2 h1 h2)
      rw [HBT.out] at h
      exact h
    clear hb1 CC
    go_wp2_with fail
    refine HCL.out.mono ?_
    rintro e w2 ⟨⟨v, rfl, hown⟩, hb2⟩
    have HO := Lib.hid hown
    have HB2 : Hid (Below w.heap.size w w2) := HB1.out.trans ((((Below.refl _ w1).alloc (Nat.le_refl _) _).trans (hb2.mono (by simp))).mono HB1.out.size)
    have hz : w.heap.size ≤ (w1.alloc (.cells #[.slice (some ad) n c, .int .i64 b, .int .i64 m'] 104)).heap.size := by have := HB1.out.size; simp; omega
    clear hown hb2 HCL
    go_wp2
    go_ret3
    exact ⟨⟨_, rfl, ownMono HO.out hz⟩, HB2.out⟩
  · have CC := Lib.hid (checked_err A n c rows b _ (hr.below hb0) hn hE)
    have hbl : bestL rows b = ([], 0) := by unfold bestL; rw [if_neg hE]
    rw [hbl]
    obtain ⟨E, hEe⟩ : ∃ E, taskE rows b = E := ⟨_, rfl⟩
    rw [hEe] at hE CC ⊢
    have h1 : (E != 0) = true := by simpa using hE
    have HB0 := Lib.hid hb0
    clear hr hb0 hE hEe hbl
    go_enter Tryz.func20, Tryz.ntmps20
    go_wp2_with fail
    refine CC.out.mono ?_
    rintro e w1 ⟨rfl, hb1⟩
    have HB1 : Hid (Below w.heap.size w w1) := HB0.out.trans (hb1.mono HB0.out.size)
    clear hb1 CC
    go_wp2
    go_ret3
    exact OwnRes3.none_ (HB1.out.alloc HB1.out.size _)

set_option maxRecDepth 100000 in
set_option maxHeartbeats 2000000 in
theorem TurnPath_any (A : Option Addr) (n c : Nat) (rows : List (List Int)) (b pitch : Int) (w : World) (hr : RdG w A n rows) (hn : n ≤ 9223372036854775806) :
    Calls Tryz.prog 34 #[.agg #[.slice A n c, .int .i64 b], .int .i64 pitch] w (OwnRes3 w (turnE rows b pitch) (turnL rows b pitch).2 (turnL rows b pitch).1) := by
  have hb0 : Below w.heap.size w ((w.alloc (.cells #[.slice A n c, .int .i64 b] 55)).alloc (.cells #[.int .i64 pitch] 3)) := ((Below.refl _ w).alloc (Nat.le_refl _) _).alloc (by simp) _
  have hp0 : ((w.alloc (.cells #[.slice A n c, .int .i64 b] 55)).alloc (.cells #[.int .i64 pitch] 3)).cell? ⟨w.heap.size + 1, 0, none⟩ = some (.int .i64 pitch) := by simp [go_sem]
  by_cases hE : taskE rows b = 0
  · obtain ⟨hg, hbb⟩ := task_ok hE
    obtain ⟨m, g1, g2, g3, g4, g5, g6⟩ := grid_ok hg
    have hln := hr.1
    obtain ⟨ad, rfl, hadb, hc⟩ := hr.2 (by omega)
    obtain ⟨B, m', c', hck, hrow, _⟩ := hc 0 (by omega)
    obtain rfl : m' = m := by rw [← hrow.1, g5]
    rw [addZ] at hck
    have CC := Lib.hid (checked_ok ad n c m' c' B rows b _ (hr.below hb0) hn (Nat.lt_of_lt_of_le hadb hb0.size) ((hb0.cell hadb).trans hck) (by omega) hE)
    have HG := Lib.hid hr
    have HRB := Lib.hid (row_bounds g6)
    have HB0 := Lib.hid hb0
    have HP0 := Lib.hid hp0
    have HTT : Hid (turnT rows b pitch = bestTo (fun f l => decide ((l : Int) = (f : Int) + pitch)) b m' rows m') := by show _ = _; unfold turnT colsOf; rw [g5]
    have HTE : Hid (turnE rows b pitch = if fromB (-12) 12 [pitch] = true then (if (turnT rows b pitch).1.length = 0 then 12 else 0) else 2) := by show _ = _; unfold turnE; rw [if_pos hE]
    have hm12 : 0 < m' ∧ m' ≤ 12 := ⟨g2, g4⟩
    have hn40 : 0 < n ∧ n ≤ 40 := by omega
    clear hr hb0 hE hg hc hck hrow g5 g6 hln hp0
    by_cases hpi : fromB (-12) 12 [pitch] = true
    · have hpp := fromB_one.1 hpi
      have CA : Hid (∀ W g, W.cell? ⟨g, 0, none⟩ = some (.int .i64 pitch) → Calls Tryz.prog 60 #[.int .i64 12, .slice (some ⟨g, 0, none⟩) 1 1] W fun e w' => e = .returned (.bool true) ∧ W = w') := fun W g h => by rw [← hpi]; exact areAtMost_any _ 1 1 [pitch] 12 W (lit1 _ _ _ h) (by omega) (by omega)
      have HPI := Lib.hid hpi
      clear hpi
      obtain ⟨⟨xs, ls⟩, hbt⟩ : ∃ s, bestTo (fun f l => decide ((l : Int) = (f : Int) + pitch)) b m' rows m' = s := ⟨_, rfl⟩
      have HBT := Lib.hid hbt
      have HTE2 : Hid (turnE rows b pitch = if xs.length = 0 then 12 else 0) := by show _ = _; rw [HTE.out, if_pos HPI.out, HTT.out, hbt]
      have HTT2 : Hid (turnT rows b pitch = (xs, ls)) := by show _ = _; rw [HTT.out, hbt]
      clear hbt
      go_enter Tryz.func34, Tryz.ntmps34
      go_wp2_with fail
      refine CC.out.mono ?_
      rintro e w1 ⟨rfl, hb1⟩
      have HB1 : Hid (Below w.heap.size w w1) := HB0.out.trans (hb1.mono HB0.out.size)
      have hp1 := (hb1.cell (p := ⟨w.heap.size + 1, 0, none⟩) (World.block_lt_of_cell? _ _ HP0.out)).trans HP0.out
      have hz1 : w.heap.size + 1 < w1.heap.size := World.block_lt_of_cell? _ _ hp1
      clear hb1 CC
      go_wp2_with fail
      refine (CA.out _ _ (by simp [go_sem])).mono ?_
      rintro e w' ⟨rfl, rfl⟩
      obtain ⟨W2, hW2⟩ : ∃ W2, ((w1.alloc (.cells #[.slice (some ad) n c, .int .i64 b, .int .i64 m'] 104)).alloc (.cells #[.int .i64 pitch] 3)) = W2 := ⟨_, rfl⟩
      rw [hW2]
      have hbx : Bk W2 w1.heap.size 104 #[.slice (some ad) n c, .int .i64 b, .int .i64 m'] := by rw [← hW2]; exact (Bk.new w1 _ _).alloc _
      have hp2 : W2.cell? ⟨w.heap.size + 1, 0, none⟩ = some (.int .i64 pitch) := by rw [← hW2]; exact cellA _ (cellA _ hp1)
      have HB2 : Hid (Below w.heap.size w W2) := by show Below _ _ _; rw [← hW2]; exact (HB1.out.alloc HB1.out.size _).alloc (by have := HB1.out.size; simp; omega) _
      have HCL : Hid (Calls Tryz.prog 50 #[.agg #[.slice (some ad) n c, .int .i64 b, .int .i64 m'], .func (.func 61) #[] #[.pointer (some ⟨w.heap.size + 1, 0, none⟩)]] W2 (OwnRes W2 ls xs)) := by
        have h := leastPath_any (some ad) n c m' rows b 61 #[.pointer (some ⟨w.heap.size + 1, 0, none⟩)] (fun f l => decide ((l : Int) = (f : Int) + pitch)) W2 (HG.out.below HB2.out) hn40 hm12 HRB.out hbb
          (fun f l W p1 p2 hf hl hbW h1 h2 => lp1_turn f l pitch W p1 p2 _ h1 h2 ((hbW.cell (p := ⟨w.heap.size + 1, 0, none⟩) (World.block_lt_of_cell? _ _ hp2)).trans hp2) (by omega) (by omega))
        rw [HBT.out] at h
        exact h
      have e0 : W2.cell? ⟨w1.heap.size, 0, none⟩ = some (.slice (some ad) n c) := by rw [hbx.cell]; rfl
      have e1 : W2.cell? ⟨w1.heap.size, 1, none⟩ = some (.int .i64 b) := by rw [hbx.cell]; rfl
      have e2 : W2.cell? ⟨w1.heap.size, 2, none⟩ = some (.int .i64 m') := by rw [hbx.cell]; rfl
      clear hW2 hp1 hp2 hbx CA
      go_wp2_with fail
      refine HCL.out.mono ?_
      rintro e w3 ⟨⟨v, rfl, hown⟩, hb3⟩
      obtain ⟨A3, c3, rfl, _, _⟩ := rd_of_own hown
      have HO := Lib.hid hown
      have HB3 : Hid (Below w.heap.size w w3) := HB2.out.trans (hb3.mono HB2.out.size)
      clear hown hb3 HCL e0 e1 e2
      by_cases hl : xs.length = 0
      · have HE : Hid (turnE rows b pitch = 12) := by show _ = _; rw [HTE2.out, if_pos hl]
        have HLL : Hid (turnL rows b pitch = ([], 0)) := by show _ = _; unfold turnL; rw [if_neg (by rw [HE.out]; decide)]
        have hl0 : ((xs.length : Int) == 0) = true := by rw [hl]; rfl
        clear hl
        go_wp2
        go_ret3
        rw [HE.out, HLL.out]
        exact OwnRes3.none_ HB3.out
      · have HE : Hid (turnE rows b pitch = 0) := by show _ = _; rw [HTE2.out, if_neg hl]
        have HLL : Hid (turnL rows b pitch = (xs, ls)) := by show _ = _; unfold turnL; rw [if_pos HE.out, HTT2.out]
        have hl0 : ((xs.length : Int) == 0) = false := by rw [beq_eq_false_iff_ne]; omega
        clear hl
        go_wp2
        go_ret3
        rw [HE.out, HLL.out]
        exact ⟨⟨_, rfl, ownMono HO.out HB2.out.size⟩, HB3.out⟩
    · have hpi2 : fromB (-12) 12 [pitch] = false := by simpa using hpi
      have CA : Hid (∀ W g, W.cell? ⟨g, 0, none⟩ = some (.int .i64 pitch) → Calls Tryz.prog 60 #[.int .i64 12, .slice (some ⟨g, 0, none⟩) 1 1] W fun e w' => e = .returned (.bool false) ∧ W = w') := fun W g h => by rw [← hpi2]; exact areAtMost_any _ 1 1 [pitch] 12 W (lit1 _ _ _ h) (by omega) (by omega)
      have HE : Hid (turnE rows b pitch = 2) := by show _ = _; rw [HTE.out, if_neg hpi]
      have HLL : Hid (turnL rows b pitch = ([], 0)) := by show _ = _; unfold turnL; rw [if_neg (by rw [HE.out]; decide)]
      clear hpi hpi2
      go_enter Tryz.func34, Tryz.ntmps34
      go_wp2_with fail
      refine CC.out.mono ?_
      rintro e w1 ⟨rfl, hb1⟩
      have HB1 : Hid (Below w.heap.size w w1) := HB0.out.trans (hb1.mono HB0.out.size)
      have hp1 := (hb1.cell (p := ⟨w.heap.size + 1, 0, none⟩) (World.block_lt_of_cell? _ _ HP0.out)).trans HP0.out
      have hz1 : w.heap.size + 1 < w1.heap.size := World.block_lt_of_cell? _ _ hp1
      clear hb1 CC
      go_wp2_with (go_at_call 60; refine (CA.out _ _ (by simp [go_sem])).mono ?_; rintro e w' ⟨rfl, rfl⟩)
      go_ret3
      rw [HE.out, HLL.out]
      exact OwnRes3.none_ ((HB1.out.alloc HB1.out.size _).alloc (by have := HB1.out.size; simp; omega) _)
  · have CC := Lib.hid (checked_err A n c rows b _ (hr.below hb0) hn hE)
    have HTE : Hid (turnE rows b pitch = taskE rows b) := by show _ = _; unfold turnE; rw [if_neg hE]
    have HLL : Hid (turnL rows b pitch = ([], 0)) := by show _ = _; unfold turnL; rw [if_neg (by rw [HTE.out]; exact hE)]
    rw [HTE.out, HLL.out]
    obtain ⟨E, hEe⟩ : ∃ E, taskE rows b = E := ⟨_, rfl⟩
    rw [hEe] at hE CC ⊢
    have h1 : (E != 0) = true := by simpa using hE
    have HB0 := Lib.hid hb0
    clear hr hb0 hE hEe hp0 HTE HLL
    go_enter Tryz.func34, Tryz.ntmps34
    go_wp2_with fail
    refine CC.out.mono ?_
    rintro e w1 ⟨rfl, hb1⟩
    have HB1 : Hid (Below w.heap.size w w1) := HB0.out.trans (hb1.mono HB0.out.size)
    clear hb1 CC
    go_wp2
    go_ret3
    exact OwnRes3.none_ (HB1.out.alloc HB1.out.size _)

end Go.Proofs.YtjjflbnopphciaaGreatDoor
