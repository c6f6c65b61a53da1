import Derived.Test.YtjjflbnopphciaaGreatDoorXC
import Derived.Test.YtjjflbnopphciaaGreatDoorR1
import Derived.Test.YtjjflbnopphciaaGreatDoorR2
namespace Go.Proofs.YtjjflbnopphciaaGreatDoor
open Go.RowKit Go.Shelf
attribute [local go_sem] Oper.semAt_some

/-- The sides of a ring: the step, and how many times the radius it is long. -/
def sds : List (Int × Int × Nat) := [(0, 1, 1), (-1, 0, 2), (0, -1, 2), (1, 0, 2), (0, 1, 1)]
def sd (i : Nat) : Int × Int × Nat := sds.getD i (0, 0, 0)
def startOf (cx cy : Int) (r : Nat) : Nat → Int × Int
  | 0 => (cx + r, cy)
  | i + 1 => ((startOf cx cy r i).1 + (sd i).1 * ((sd i).2.2 * r : Nat), (startOf cx cy r i).2 + (sd i).2.1 * ((sd i).2.2 * r : Nat))
def ptOf (cx cy : Int) (r i k : Nat) : Int × Int := ((startOf cx cy r i).1 + (sd i).1 * k, (startOf cx cy r i).2 + (sd i).2.1 * k)
def sideTo (cx cy : Int) (r i k : Nat) : List (Int × Int) := (List.range k).map (ptOf cx cy r i)
def ringTo (cx cy : Int) (r : Nat) : Nat → List (Int × Int)
  | 0 => []
  | i + 1 => ringTo cx cy r i ++ sideTo cx cy r i ((sd i).2.2 * r)
theorem sideTo_succ (cx cy : Int) (r i k : Nat) : sideTo cx cy r i (k + 1) = sideTo cx cy r i k ++ [ptOf cx cy r i k] := by simp [sideTo, List.range_succ]

theorem ringTo_len (cx cy : Int) (r k q : Nat) (hk : k < 5) (hq : q < (sd k).2.2 * r) : (ringTo cx cy r k ++ sideTo cx cy r k q).length < (ringTo cx cy r 5).length := by
  have h1 : ∀ i, (ringTo cx cy r (i + 1)).length = (ringTo cx cy r i).length + (sd i).2.2 * r := fun i => by simp [ringTo, sideTo]
  have e0 := h1 0; have e1 := h1 1; have e2 := h1 2; have e3 := h1 3; have e4 := h1 4
  rw [List.length_append, show (sideTo cx cy r k q).length = q by simp [sideTo]]
  rcases (by omega : k = 0 ∨ k = 1 ∨ k = 2 ∨ k = 3 ∨ k = 4) with rfl | rfl | rfl | rfl | rfl <;> simp only [show (sd 0).2.2 = 1 from rfl, show (sd 1).2.2 = 2 from rfl, show (sd 2).2.2 = 2 from rfl, show (sd 3).2.2 = 2 from rfl, show (sd 4).2.2 = 1 from rfl, Nat.zero_add, Nat.reduceAdd, Nat.one_mul] at e0 e1 e2 e3 e4 hq <;> omega

theorem sideTo_pre (cx cy : Int) (r i a b : Nat) (h : a ≤ b) : sideTo cx cy r i a <+: sideTo cx cy r i b := by
  unfold sideTo
  exact (show List.range a <+: List.range b by
    obtain ⟨c, rfl⟩ := Nat.exists_eq_add_of_le h
    rw [List.range_add]; exact List.prefix_append _ _).map _
theorem ringTo_step (cx cy : Int) (r i : Nat) : ringTo cx cy r i <+: ringTo cx cy r (i + 1) := List.prefix_append _ _
theorem ringTo_pre (cx cy : Int) (r k q : Nat) (hk : k < 5) (hq : q < (sd k).2.2 * r) : ringTo cx cy r k ++ sideTo cx cy r k (q + 1) <+: ringTo cx cy r 5 := by
  have h1 : ringTo cx cy r k ++ sideTo cx cy r k (q + 1) <+: ringTo cx cy r (k + 1) := List.prefix_append_right_inj _ |>.2 (sideTo_pre cx cy r k _ _ hq)
  rcases (by omega : k = 0 ∨ k = 1 ∨ k = 2 ∨ k = 3 ∨ k = 4) with rfl | rfl | rfl | rfl | rfl
  · exact (((h1.trans (ringTo_step cx cy r 1)).trans (ringTo_step cx cy r 2)).trans (ringTo_step cx cy r 3)).trans (ringTo_step cx cy r 4)
  · exact ((h1.trans (ringTo_step cx cy r 2)).trans (ringTo_step cx cy r 3)).trans (ringTo_step cx cy r 4)
  · exact (h1.trans (ringTo_step cx cy r 3)).trans (ringTo_step cx cy r 4)
  · exact h1.trans (ringTo_step cx cy r 4)
  · exact h1

theorem cell_same {W W' : World} {B : Nat} (h : W'.heap[B]? = W.heap[B]?) (o : Nat) : W'.cell? ⟨B, o, none⟩ = W.cell? ⟨B, o, none⟩ := by simp [World.cell?, h]
theorem frozen_same {W W' : World} {B : Nat} (h : W'.heap[B]? = W.heap[B]?) (o : Nat) : W'.frozen? ⟨B, o, none⟩ = W.frozen? ⟨B, o, none⟩ := by simp [World.frozen?, h]
theorem ptOf_zero (cx cy : Int) (r i : Nat) : ptOf cx cy r i 0 = startOf cx cy r i := by simp [ptOf]
theorem start_in (cx cy : Int) (r k : Nat) (hk : k < 5) (hcx : -100000 ≤ cx ∧ cx ≤ 100000) (hcy : -100000 ≤ cy ∧ cy ≤ 100000) (hr : r ≤ 100000) :
    -1000000 ≤ (startOf cx cy r k).1 ∧ (startOf cx cy r k).1 ≤ 1000000 ∧ -1000000 ≤ (startOf cx cy r k).2 ∧ (startOf cx cy r k).2 ≤ 1000000 := by
  have e0 : startOf cx cy r 0 = (cx + r, cy) := rfl
  have e1 : startOf cx cy r 1 = ((startOf cx cy r 0).1 + 0 * ((1 * r : Nat) : Int), (startOf cx cy r 0).2 + 1 * ((1 * r : Nat) : Int)) := rfl
  have e2 : startOf cx cy r 2 = ((startOf cx cy r 1).1 + (-1) * ((2 * r : Nat) : Int), (startOf cx cy r 1).2 + 0 * ((2 * r : Nat) : Int)) := rfl
  have e3 : startOf cx cy r 3 = ((startOf cx cy r 2).1 + 0 * ((2 * r : Nat) : Int), (startOf cx cy r 2).2 + (-1) * ((2 * r : Nat) : Int)) := rfl
  have e4 : startOf cx cy r 4 = ((startOf cx cy r 3).1 + 1 * ((2 * r : Nat) : Int), (startOf cx cy r 3).2 + 0 * ((2 * r : Nat) : Int)) := rfl
  rw [e0] at e1
  rw [e1] at e2
  rw [e2] at e3
  rw [e3] at e4
  rcases (by omega : k = 0 ∨ k = 1 ∨ k = 2 ∨ k = 3 ∨ k = 4) with rfl | rfl | rfl | rfl | rfl
  · rw [e0]; dsimp only; omega
  · rw [e1]; dsimp only; omega
  · rw [e2]; dsimp only; omega
  · rw [e3]; dsimp only; omega
  · rw [e4]; dsimp only; omega

/-- The table of the sides is laid in memory. -/
structure LaidSides (w : World) : Prop where
  lt : 0 < w.heap.size
  row : ∀ j, j < 5 → w.cell? ⟨0, 3 * j, none⟩ = some (.int .i64 (sd j).1) ∧ w.cell? ⟨0, 3 * j + 1, none⟩ = some (.int .i64 (sd j).2.1) ∧ w.cell? ⟨0, 3 * j + 2, none⟩ = some (.int .i64 ((sd j).2.2 : Nat))

set_option maxRecDepth 100000 in
theorem side_at0 (w : World) : (Instr.index 155 (.agg #[.int .i64 (0), .int .i64 (1), .int .i64 (1), .int .i64 (-1), .int .i64 (0), .int .i64 (2), .int .i64 (0), .int .i64 (-1), .int .i64 (2), .int .i64 (1), .int .i64 (0), .int .i64 (2), .int .i64 (0), .int .i64 (1), .int .i64 (1)]) (.int .i64 0)).run Tryz.prog w = .ok (.agg #[.int .i64 (0), .int .i64 (1), .int .i64 (1)]) w := by
  first | kernel_rfl | rfl
set_option maxRecDepth 100000 in
theorem side_at1 (w : World) : (Instr.index 155 (.agg #[.int .i64 (0), .int .i64 (1), .int .i64 (1), .int .i64 (-1), .int .i64 (0), .int .i64 (2), .int .i64 (0), .int .i64 (-1), .int .i64 (2), .int .i64 (1), .int .i64 (0), .int .i64 (2), .int .i64 (0), .int .i64 (1), .int .i64 (1)]) (.int .i64 1)).run Tryz.prog w = .ok (.agg #[.int .i64 (-1), .int .i64 (0), .int .i64 (2)]) w := by
  first | kernel_rfl | rfl
set_option maxRecDepth 100000 in
theorem side_at2 (w : World) : (Instr.index 155 (.agg #[.int .i64 (0), .int .i64 (1), .int .i64 (1), .int .i64 (-1), .int .i64 (0), .int .i64 (2), .int .i64 (0), .int .i64 (-1), .int .i64 (2), .int .i64 (1), .int .i64 (0), .int .i64 (2), .int .i64 (0), .int .i64 (1), .int .i64 (1)]) (.int .i64 2)).run Tryz.prog w = .ok (.agg #[.int .i64 (0), .int .i64 (-1), .int .i64 (2)]) w := by
  first | kernel_rfl | rfl
set_option maxRecDepth 100000 in
theorem side_at3 (w : World) : (Instr.index 155 (.agg #[.int .i64 (0), .int .i64 (1), .int .i64 (1), .int .i64 (-1), .int .i64 (0), .int .i64 (2), .int .i64 (0), .int .i64 (-1), .int .i64 (2), .int .i64 (1), .int .i64 (0), .int .i64 (2), .int .i64 (0), .int .i64 (1), .int .i64 (1)]) (.int .i64 3)).run Tryz.prog w = .ok (.agg #[.int .i64 (1), .int .i64 (0), .int .i64 (2)]) w := by
  first | kernel_rfl | rfl
set_option maxRecDepth 100000 in
theorem side_at4 (w : World) : (Instr.index 155 (.agg #[.int .i64 (0), .int .i64 (1), .int .i64 (1), .int .i64 (-1), .int .i64 (0), .int .i64 (2), .int .i64 (0), .int .i64 (-1), .int .i64 (2), .int .i64 (1), .int .i64 (0), .int .i64 (2), .int .i64 (0), .int .i64 (1), .int .i64 (1)]) (.int .i64 4)).run Tryz.prog w = .ok (.agg #[.int .i64 (0), .int .i64 (1), .int .i64 (1)]) w := by
  first | kernel_rfl | rfl

set_option maxRecDepth 100000 in
set_option maxHeartbeats 4000000 in
theorem around_run (F : Fence) (n : Nat) (hf : F.fn 94) (hro : F.round = none) (hn : 1 ≤ n) (Bc Br : Nat) (cx cy : Int) (r : Nat) (hcx : -100000 ≤ cx ∧ cx ≤ 100000) (hcy : -100000 ≤ cy ∧ cy ≤ 100000) (hr : r ≤ 100000)
    (w : World) (hl : LaidSides w) (hb1 : Bc < w.heap.size) (hb2 : Br < w.heap.size) (hx : w.cell? ⟨Bc, 0, none⟩ = some (.int .i64 cx)) (hy : w.cell? ⟨Bc, 1, none⟩ = some (.int .i64 cy)) (hrr : w.cell? ⟨Br, 0, none⟩ = some (.int .i64 r)) :
    SeqRuns F n Tryz.prog 94 #[.pointer (some ⟨Bc, 0, none⟩), .pointer (some ⟨Br, 0, none⟩)] (fun p : Int × Int => #[.agg #[.int .i64 p.1, .int .i64 p.2]]) (fun ys => ys = ringTo cx cy r 5) (fun l => l <+: ringTo cx cy r 5) (fun b => b = Bc ∨ b = Br) w := fun l J W hW hsz hnew hput hdrew hY h0 => by
  have hlW : LaidSides W := ⟨Nat.lt_of_lt_of_le hl.lt hW.size, fun j hj => by
    obtain ⟨a, b, c⟩ := hl.row j hj
    exact ⟨(hW.cell (p := ⟨_, _, none⟩) hl.lt).trans a, (hW.cell (p := ⟨_, _, none⟩) hl.lt).trans b, (hW.cell (p := ⟨_, _, none⟩) hl.lt).trans c⟩⟩
  have hx' : W.cell? ⟨Bc, 0, none⟩ = some (.int .i64 cx) := (hW.cell (p := ⟨Bc, 0, none⟩) hb1).trans hx
  have hy' : W.cell? ⟨Bc, 1, none⟩ = some (.int .i64 cy) := (hW.cell (p := ⟨Bc, 1, none⟩) hb1).trans hy
  have hr' : W.cell? ⟨Br, 0, none⟩ = some (.int .i64 r) := (hW.cell (p := ⟨Br, 0, none⟩) hb2).trans hrr
  clear hx hy hrr
  have HSZ := Lib.hid hsz
  have HNEW := Lib.hid hnew
  have HPUT := Lib.hid hput
  have HY := Lib.hid hY
  have H0 := Lib.hid h0
  clear hsz hnew hput hdrew hY h0
  refine callsIn_of_wp Tryz.func94 rfl hf ?_ hro
  simp only [Tryz.ntmps94, List.size_toArray, List.length_cons, List.length_nil, Nat.reduceAdd, Nat.reduceSub, Array.replicate_succ, Array.replicate_zero, List.push_toArray, List.append_toArray, List.nil_append, List.cons_append]
  have hw1 : IntKind.i64.wrap (cx + r) = cx + r := IntWalk.i64_in _ (by omega)
  have t0 : W.cell? ⟨0, 0, none⟩ = some (.int .i64 (0)) := (hlW.row 0 (by omega)).1
  have t1 : W.cell? ⟨0, 1, none⟩ = some (.int .i64 (1)) := (hlW.row 0 (by omega)).2.1
  have t2 : W.cell? ⟨0, 2, none⟩ = some (.int .i64 (1)) := (hlW.row 0 (by omega)).2.2
  have t3 : W.cell? ⟨0, 3, none⟩ = some (.int .i64 (-1)) := (hlW.row 1 (by omega)).1
  have t4 : W.cell? ⟨0, 4, none⟩ = some (.int .i64 (0)) := (hlW.row 1 (by omega)).2.1
  have t5 : W.cell? ⟨0, 5, none⟩ = some (.int .i64 (2)) := (hlW.row 1 (by omega)).2.2
  have t6 : W.cell? ⟨0, 6, none⟩ = some (.int .i64 (0)) := (hlW.row 2 (by omega)).1
  have t7 : W.cell? ⟨0, 7, none⟩ = some (.int .i64 (-1)) := (hlW.row 2 (by omega)).2.1
  have t8 : W.cell? ⟨0, 8, none⟩ = some (.int .i64 (2)) := (hlW.row 2 (by omega)).2.2
  have t9 : W.cell? ⟨0, 9, none⟩ = some (.int .i64 (1)) := (hlW.row 3 (by omega)).1
  have t10 : W.cell? ⟨0, 10, none⟩ = some (.int .i64 (0)) := (hlW.row 3 (by omega)).2.1
  have t11 : W.cell? ⟨0, 11, none⟩ = some (.int .i64 (2)) := (hlW.row 3 (by omega)).2.2
  have t12 : W.cell? ⟨0, 12, none⟩ = some (.int .i64 (0)) := (hlW.row 4 (by omega)).1
  have t13 : W.cell? ⟨0, 13, none⟩ = some (.int .i64 (1)) := (hlW.row 4 (by omega)).2.1
  have t14 : W.cell? ⟨0, 14, none⟩ = some (.int .i64 (1)) := (hlW.row 4 (by omega)).2.2
  have hgl := hlW.lt
  gi_wp2
  have hBrW : Br < W.heap.size := Nat.lt_of_lt_of_le hb2 hW.size
  clear t0 t1 t2 t3 t4 t5 t6 t7 t8 t9 t10 t11 t12 t13 t14 hgl hx' hy' hl hlW
  have HR' := Lib.hid hr'
  clear hr'
  gi_loopw [15] (fun i wr => ∃ k : Nat, k ≤ 5 ∧ i = .int .i64 k ∧ Hid (∃ T, J T (ringTo cx cy r k) wr ∧ T W.heap.size ∧ T Br ∧ wr.cell? ⟨W.heap.size, 0, none⟩ = some (.int .i64 (startOf cx cy r k).1) ∧ wr.cell? ⟨W.heap.size, 1, none⟩ = some (.int .i64 (startOf cx cy r k).2) ∧ wr.frozen? ⟨W.heap.size, 0, none⟩ = false ∧ wr.frozen? ⟨W.heap.size, 1, none⟩ = false ∧ wr.cell? ⟨Br, 0, none⟩ = some (.int .i64 r))) (fun i _ => 5 - (intOf i).toNat)
  case atStart =>
    refine ⟨0, by omega, rfl, _, HNEW.out _ _ _ (.cells #[.int .i64 (cx + r), .int .i64 cy] 43) H0.out, .inr rfl, .inl (.inr rfl), ?_, ?_, ?_, ?_, ?_⟩
    · simp [startOf, go_sem]
    · simp [startOf, go_sem]
    · simp [go_sem]
    · simp [go_sem]
    · exact cell_kept HR'.out (World.grownBy_alloc W _ none) (fun r e => by cases e)
  case round =>
    obtain ⟨k, hk, rfl, HI⟩ := hrel
    by_cases hk5 : k < 5
    · rcases (by omega : k = 0 ∨ k = 1 ∨ k = 2 ∨ k = 3 ∨ k = 4) with rfl | rfl | rfl | rfl | rfl
      · obtain ⟨T, hJ, hT1, hT2, p0, p1, q0, q1, hrB⟩ := HI.out
        clear HI
        have hBrwr : Br < wr.heap.size := HSZ.out _ _ _ hJ _ hT2
        have hatwr : W.heap.size < wr.heap.size := HSZ.out _ _ _ hJ _ hT1
        have HJ := Lib.hid hJ
        have HT1 := Lib.hid hT1
        have HT2 := Lib.hid hT2
        have HP0 := Lib.hid p0
        have HP1 := Lib.hid p1
        have HQ0 := Lib.hid q0
        have HQ1 := Lib.hid q1
        have HRB := Lib.hid hrB
        clear hJ hT1 hT2 p0 p1 q0 q1
        have hmr : IntKind.i64.wrap (2 * (r : Int)) = 2 * (r : Int) := IntWalk.i64_in _ (by omega)
        have hix := side_at0
        simp only [Int.natCast_zero, Int.natCast_one, Int.reduceNeg, Int.cast_ofNat_Int] at hix ⊢
        gi_wp2
        clear hix hrB
        gi_loopw [22] (fun i wr2 => ∃ q : Nat, q ≤ r ∧ i = .int .i64 q ∧ Hid (∃ T', J T' (ringTo cx cy r 0 ++ sideTo cx cy r 0 q) wr2 ∧ T' W.heap.size ∧ T' Br ∧ T' wr.heap.size ∧ wr2.cell? ⟨W.heap.size, 0, none⟩ = some (.int .i64 (ptOf cx cy r 0 q).1) ∧ wr2.cell? ⟨W.heap.size, 1, none⟩ = some (.int .i64 (ptOf cx cy r 0 q).2) ∧ wr2.frozen? ⟨W.heap.size, 0, none⟩ = false ∧ wr2.frozen? ⟨W.heap.size, 1, none⟩ = false ∧ wr2.cell? ⟨wr.heap.size, 0, none⟩ = some (.int .i64 (0)) ∧ wr2.cell? ⟨wr.heap.size, 1, none⟩ = some (.int .i64 (1)) ∧ wr2.cell? ⟨Br, 0, none⟩ = some (.int .i64 r))) (fun i _ => r - (intOf i).toNat)
        case atStart =>
          refine ⟨0, Nat.zero_le _, rfl, (fun b => T b ∨ b = wr.heap.size), by rw [show sideTo cx cy r 0 0 = [] from rfl, List.append_nil]; exact HNEW.out _ _ _ _ HJ.out, .inl HT1.out, .inl HT2.out, .inr rfl, by rw [ptOf_zero]; exact cellA _ HP0.out, by rw [ptOf_zero]; exact cellA _ HP1.out, frozA _ HP0.out HQ0.out, frozA _ HP1.out HQ1.out, by simp [go_sem], by simp [go_sem], cellA _ HRB.out⟩
        case round =>
          obtain ⟨q, hq, rfl, HI⟩ := hrel
          by_cases hlt : q < r
          · obtain ⟨T', hJ, g1, g2, g3, p0, p1, q0, q1, s0, s1, hrB⟩ := HI.out
            clear HI
            have hlI : (q : Int) < (r : Int) := by omega
            have hst := start_in cx cy r 0 (by omega) hcx hcy hr
            have hp1 : (ptOf cx cy r 0 q).1 = (startOf cx cy r 0).1 + (0) * (q : Int) := rfl
            have hp2 : (ptOf cx cy r 0 q).2 = (startOf cx cy r 0).2 + (1) * (q : Int) := rfl
            have hn1 : (ptOf cx cy r 0 (q + 1)).1 = (startOf cx cy r 0).1 + (0) * ((q + 1 : Nat) : Int) := rfl
            have hn2 : (ptOf cx cy r 0 (q + 1)).2 = (startOf cx cy r 0).2 + (1) * ((q + 1 : Nat) : Int) := rfl
            obtain ⟨⟨px, py⟩, hpt⟩ : ∃ p, ptOf cx cy r 0 q = p := ⟨_, rfl⟩
            rw [hpt] at p0 p1 hp1 hp2
            dsimp only at p0 p1 hp1 hp2
            have hbx : -2000000 ≤ px ∧ px ≤ 2000000 := by omega
            have hby : -2000000 ≤ py ∧ py ≤ 2000000 := by omega
            have HN1 : Hid ((ptOf cx cy r 0 (q + 1)).1 = px) := by show _ = _; omega
            have HN2 : Hid ((ptOf cx cy r 0 (q + 1)).2 = py + (1)) := by show _ = _; omega
            clear hp1 hp2 hn1 hn2 hst
            have HL : Hid (ringTo cx cy r 0 ++ sideTo cx cy r 0 (q + 1) = ringTo cx cy r 0 ++ sideTo cx cy r 0 q ++ [(px, py)]) := by
              show _ = _
              rw [sideTo_succ, hpt, List.append_assoc]
            clear hpt
            have hwx : IntKind.i64.wrap (px + (0)) = px + (0) := IntWalk.i64_in _ (by omega)
            have hwy : IntKind.i64.wrap (py + (1)) = py + (1) := IntWalk.i64_in _ (by omega)
            obtain ⟨fn, tmps, assign, body, hy, hR⟩ := HY.out T' _ (px, py) wr hJ (by show _ <+: _; rw [← HL.out]; exact ringTo_pre cx cy r 0 q (by omega) (by show q < 1 * r; omega))
            dsimp only at hy
            have G1 := Lib.hid g1
            have G2 := Lib.hid g2
            have G3 := Lib.hid g3
            clear g1 g2 g3
            gi_wp2
            refine hR.mono ?_
            rintro e A' ⟨rfl, hJ', hT⟩
            have c0 := (cell_same (hT _ G1.out) 0).trans p0
            have c1 := (cell_same (hT _ G1.out) 1).trans p1
            have e0 := (frozen_same (hT _ G1.out) 0).trans q0
            have e1 := (frozen_same (hT _ G1.out) 1).trans q1
            have d0 := (cell_same (hT _ G3.out) 0).trans s0
            have d1 := (cell_same (hT _ G3.out) 1).trans s1
            have hrB' := (cell_same (hT _ G2.out) 0).trans hrB
            have HJ2 := Lib.hid hJ'
            clear hT hJ' hJ hR hy p0 p1 q0 q1 s0 s1 hrB
            gi_wp2
            go_roundw
            case rel =>
              refine ⟨q + 1, by omega, by first | rfl | (congr 1; done) | (simp; done), T', ?_, G1.out, G2.out, G3.out, ?_, ?_, ?_, ?_, ?_, ?_, ?_⟩
              · rw [HL.out]; exact HPUT.out _ _ _ _ _ (HPUT.out _ _ _ _ _ HJ2.out G1.out) G1.out
              · rw [HN1.out, World.cell?_setCell_other _ _ _ _ (by simp)]; exact World.cell?_setCell_same' _ _ _ (by rw [c0]; rfl)
              · rw [HN2.out]; exact World.cell?_setCell_same' _ _ _ (by rw [World.cell?_setCell_other _ _ _ _ (by simp), c1]; rfl)
              · rw [World.frozen?_setCell, World.frozen?_setCell]; exact e0
              · rw [World.frozen?_setCell, World.frozen?_setCell]; exact e1
              · rw [World.cell?_setCell_far _ _ _ _ (by dsimp only; omega), World.cell?_setCell_far _ _ _ _ (by dsimp only; omega)]; exact d0
              · rw [World.cell?_setCell_far _ _ _ _ (by dsimp only; omega), World.cell?_setCell_far _ _ _ _ (by dsimp only; omega)]; exact d1
              · rw [World.cell?_setCell_far _ _ _ _ (by dsimp only; omega), World.cell?_setCell_far _ _ _ _ (by dsimp only; omega)]; exact hrB'
            case measure => simp only [intOf]; first | omega | (simp [intOf]; omega)
          · obtain rfl : r = q := by omega
            have HRT : Hid (ringTo cx cy r 1 = ringTo cx cy r 0 ++ sideTo cx cy r 0 (r)) := by
              show _ ++ sideTo cx cy r 0 (1 * r) = _
              first | rfl | rw [Nat.one_mul]
            have HST : Hid (startOf cx cy r 1 = ptOf cx cy r 0 (r)) := by
              show ptOf cx cy r 0 (1 * r) = _
              first | rfl | rw [Nat.one_mul]
            gi_wp2
            obtain ⟨T', hJ, g1, g2, g3, p0, p1, q0, q1, s0, s1, hrB⟩ := HI.out
            refine ⟨⟨1, by omega, rfl, T', by rw [HRT.out]; exact hJ, g1, g2, by rw [HST.out]; exact p0, by rw [HST.out]; exact p1, q0, q1, hrB⟩, by simp [intOf]⟩
      · obtain ⟨T, hJ, hT1, hT2, p0, p1, q0, q1, hrB⟩ := HI.out
        clear HI
        have hBrwr : Br < wr.heap.size := HSZ.out _ _ _ hJ _ hT2
        have hatwr : W.heap.size < wr.heap.size := HSZ.out _ _ _ hJ _ hT1
        have HJ := Lib.hid hJ
        have HT1 := Lib.hid hT1
        have HT2 := Lib.hid hT2
        have HP0 := Lib.hid p0
        have HP1 := Lib.hid p1
        have HQ0 := Lib.hid q0
        have HQ1 := Lib.hid q1
        have HRB := Lib.hid hrB
        clear hJ hT1 hT2 p0 p1 q0 q1
        have hmr : IntKind.i64.wrap (2 * (r : Int)) = 2 * (r : Int) := IntWalk.i64_in _ (by omega)
        have hix := side_at1
        simp only [Int.natCast_zero, Int.natCast_one, Int.reduceNeg, Int.cast_ofNat_Int] at hix ⊢
        gi_wp2
        clear hix hrB
        gi_loopw [22] (fun i wr2 => ∃ q : Nat, q ≤ 2 * r ∧ i = .int .i64 q ∧ Hid (∃ T', J T' (ringTo cx cy r 1 ++ sideTo cx cy r 1 q) wr2 ∧ T' W.heap.size ∧ T' Br ∧ T' wr.heap.size ∧ wr2.cell? ⟨W.heap.size, 0, none⟩ = some (.int .i64 (ptOf cx cy r 1 q).1) ∧ wr2.cell? ⟨W.heap.size, 1, none⟩ = some (.int .i64 (ptOf cx cy r 1 q).2) ∧ wr2.frozen? ⟨W.heap.size, 0, none⟩ = false ∧ wr2.frozen? ⟨W.heap.size, 1, none⟩ = false ∧ wr2.cell? ⟨wr.heap.size, 0, none⟩ = some (.int .i64 (-1)) ∧ wr2.cell? ⟨wr.heap.size, 1, none⟩ = some (.int .i64 (0)) ∧ wr2.cell? ⟨Br, 0, none⟩ = some (.int .i64 r))) (fun i _ => 2 * r - (intOf i).toNat)
        case atStart =>
          refine ⟨0, Nat.zero_le _, rfl, (fun b => T b ∨ b = wr.heap.size), by rw [show sideTo cx cy r 1 0 = [] from rfl, List.append_nil]; exact HNEW.out _ _ _ _ HJ.out, .inl HT1.out, .inl HT2.out, .inr rfl, by rw [ptOf_zero]; exact cellA _ HP0.out, by rw [ptOf_zero]; exact cellA _ HP1.out, frozA _ HP0.out HQ0.out, frozA _ HP1.out HQ1.out, by simp [go_sem], by simp [go_sem], cellA _ HRB.out⟩
        case round =>
          obtain ⟨q, hq, rfl, HI⟩ := hrel
          by_cases hlt : q < 2 * r
          · obtain ⟨T', hJ, g1, g2, g3, p0, p1, q0, q1, s0, s1, hrB⟩ := HI.out
            clear HI
            have hlI : (q : Int) < 2 * (r : Int) := by omega
            have hst := start_in cx cy r 1 (by omega) hcx hcy hr
            have hp1 : (ptOf cx cy r 1 q).1 = (startOf cx cy r 1).1 + (-1) * (q : Int) := rfl
            have hp2 : (ptOf cx cy r 1 q).2 = (startOf cx cy r 1).2 + (0) * (q : Int) := rfl
            have hn1 : (ptOf cx cy r 1 (q + 1)).1 = (startOf cx cy r 1).1 + (-1) * ((q + 1 : Nat) : Int) := rfl
            have hn2 : (ptOf cx cy r 1 (q + 1)).2 = (startOf cx cy r 1).2 + (0) * ((q + 1 : Nat) : Int) := rfl
            obtain ⟨⟨px, py⟩, hpt⟩ : ∃ p, ptOf cx cy r 1 q = p := ⟨_, rfl⟩
            rw [hpt] at p0 p1 hp1 hp2
            dsimp only at p0 p1 hp1 hp2
            have hbx : -2000000 ≤ px ∧ px ≤ 2000000 := by omega
            have hby : -2000000 ≤ py ∧ py ≤ 2000000 := by omega
            have HN1 : Hid ((ptOf cx cy r 1 (q + 1)).1 = px + (-1)) := by show _ = _; omega
            have HN2 : Hid ((ptOf cx cy r 1 (q + 1)).2 = py) := by show _ = _; omega
            clear hp1 hp2 hn1 hn2 hst
            have HL : Hid (ringTo cx cy r 1 ++ sideTo cx cy r 1 (q + 1) = ringTo cx cy r 1 ++ sideTo cx cy r 1 q ++ [(px, py)]) := by
              show _ = _
              rw [sideTo_succ, hpt, List.append_assoc]
            clear hpt
            have hwx : IntKind.i64.wrap (px + (-1)) = px + (-1) := IntWalk.i64_in _ (by omega)
            have hwy : IntKind.i64.wrap (py + (0)) = py + (0) := IntWalk.i64_in _ (by omega)
            obtain ⟨fn, tmps, assign, body, hy, hR⟩ := HY.out T' _ (px, py) wr hJ (by show _ <+: _; rw [← HL.out]; exact ringTo_pre cx cy r 1 q (by omega) (by show q < 2 * r; omega))
            dsimp only at hy
            have G1 := Lib.hid g1
            have G2 := Lib.hid g2
            have G3 := Lib.hid g3
            clear g1 g2 g3
            gi_wp2
            refine hR.mono ?_
            rintro e A' ⟨rfl, hJ', hT⟩
            have c0 := (cell_same (hT _ G1.out) 0).trans p0
            have c1 := (cell_same (hT _ G1.out) 1).trans p1
            have e0 := (frozen_same (hT _ G1.out) 0).trans q0
            have e1 := (frozen_same (hT _ G1.out) 1).trans q1
            have d0 := (cell_same (hT _ G3.out) 0).trans s0
            have d1 := (cell_same (hT _ G3.out) 1).trans s1
            have hrB' := (cell_same (hT _ G2.out) 0).trans hrB
            have HJ2 := Lib.hid hJ'
            clear hT hJ' hJ hR hy p0 p1 q0 q1 s0 s1 hrB
            gi_wp2
            go_roundw
            case rel =>
              refine ⟨q + 1, by omega, by first | rfl | (congr 1; done) | (simp; done), T', ?_, G1.out, G2.out, G3.out, ?_, ?_, ?_, ?_, ?_, ?_, ?_⟩
              · rw [HL.out]; exact HPUT.out _ _ _ _ _ (HPUT.out _ _ _ _ _ HJ2.out G1.out) G1.out
              · rw [HN1.out, World.cell?_setCell_other _ _ _ _ (by simp)]; exact World.cell?_setCell_same' _ _ _ (by rw [c0]; rfl)
              · rw [HN2.out]; exact World.cell?_setCell_same' _ _ _ (by rw [World.cell?_setCell_other _ _ _ _ (by simp), c1]; rfl)
              · rw [World.frozen?_setCell, World.frozen?_setCell]; exact e0
              · rw [World.frozen?_setCell, World.frozen?_setCell]; exact e1
              · rw [World.cell?_setCell_far _ _ _ _ (by dsimp only; omega), World.cell?_setCell_far _ _ _ _ (by dsimp only; omega)]; exact d0
              · rw [World.cell?_setCell_far _ _ _ _ (by dsimp only; omega), World.cell?_setCell_far _ _ _ _ (by dsimp only; omega)]; exact d1
              · rw [World.cell?_setCell_far _ _ _ _ (by dsimp only; omega), World.cell?_setCell_far _ _ _ _ (by dsimp only; omega)]; exact hrB'
            case measure => simp only [intOf]; first | omega | (simp [intOf]; omega)
          · obtain rfl : 2 * r = q := by omega
            have HRT : Hid (ringTo cx cy r 2 = ringTo cx cy r 1 ++ sideTo cx cy r 1 (2 * r)) := by
              show _ ++ sideTo cx cy r 1 (2 * r) = _
              first | rfl | rw [Nat.one_mul]
            have HST : Hid (startOf cx cy r 2 = ptOf cx cy r 1 (2 * r)) := by
              show ptOf cx cy r 1 (2 * r) = _
              first | rfl | rw [Nat.one_mul]
            gi_wp2
            obtain ⟨T', hJ, g1, g2, g3, p0, p1, q0, q1, s0, s1, hrB⟩ := HI.out
            refine ⟨⟨2, by omega, rfl, T', by rw [HRT.out]; exact hJ, g1, g2, by rw [HST.out]; exact p0, by rw [HST.out]; exact p1, q0, q1, hrB⟩, by simp [intOf]⟩
      · obtain ⟨T, hJ, hT1, hT2, p0, p1, q0, q1, hrB⟩ := HI.out
        clear HI
        have hBrwr : Br < wr.heap.size := HSZ.out _ _ _ hJ _ hT2
        have hatwr : W.heap.size < wr.heap.size := HSZ.out _ _ _ hJ _ hT1
        have HJ := Lib.hid hJ
        have HT1 := Lib.hid hT1
        have HT2 := Lib.hid hT2
        have HP0 := Lib.hid p0
        have HP1 := Lib.hid p1
        have HQ0 := Lib.hid q0
        have HQ1 := Lib.hid q1
        have HRB := Lib.hid hrB
        clear hJ hT1 hT2 p0 p1 q0 q1
        have hmr : IntKind.i64.wrap (2 * (r : Int)) = 2 * (r : Int) := IntWalk.i64_in _ (by omega)
        have hix := side_at2
        simp only [Int.natCast_zero, Int.natCast_one, Int.reduceNeg, Int.cast_ofNat_Int] at hix ⊢
        gi_wp2
        clear hix hrB
        gi_loopw [22] (fun i wr2 => ∃ q : Nat, q ≤ 2 * r ∧ i = .int .i64 q ∧ Hid (∃ T', J T' (ringTo cx cy r 2 ++ sideTo cx cy r 2 q) wr2 ∧ T' W.heap.size ∧ T' Br ∧ T' wr.heap.size ∧ wr2.cell? ⟨W.heap.size, 0, none⟩ = some (.int .i64 (ptOf cx cy r 2 q).1) ∧ wr2.cell? ⟨W.heap.size, 1, none⟩ = some (.int .i64 (ptOf cx cy r 2 q).2) ∧ wr2.frozen? ⟨W.heap.size, 0, none⟩ = false ∧ wr2.frozen? ⟨W.heap.size, 1, none⟩ = false ∧ wr2.cell? ⟨wr.heap.size, 0, none⟩ = some (.int .i64 (0)) ∧ wr2.cell? ⟨wr.heap.size, 1, none⟩ = some (.int .i64 (-1)) ∧ wr2.cell? ⟨Br, 0, none⟩ = some (.int .i64 r))) (fun i _ => 2 * r - (intOf i).toNat)
        case atStart =>
          refine ⟨0, Nat.zero_le _, rfl, (fun b => T b ∨ b = wr.heap.size), by rw [show sideTo cx cy r 2 0 = [] from rfl, List.append_nil]; exact HNEW.out _ _ _ _ HJ.out, .inl HT1.out, .inl HT2.out, .inr rfl, by rw [ptOf_zero]; exact cellA _ HP0.out, by rw [ptOf_zero]; exact cellA _ HP1.out, frozA _ HP0.out HQ0.out, frozA _ HP1.out HQ1.out, by simp [go_sem], by simp [go_sem], cellA _ HRB.out⟩
        case round =>
          obtain ⟨q, hq, rfl, HI⟩ := hrel
          by_cases hlt : q < 2 * r
          · obtain ⟨T', hJ, g1, g2, g3, p0, p1, q0, q1, s0, s1, hrB⟩ := HI.out
            clear HI
            have hlI : (q : Int) < 2 * (r : Int) := by omega
            have hst := start_in cx cy r 2 (by omega) hcx hcy hr
            have hp1 : (ptOf cx cy r 2 q).1 = (startOf cx cy r 2).1 + (0) * (q : Int) := rfl
            have hp2 : (ptOf cx cy r 2 q).2 = (startOf cx cy r 2).2 + (-1) * (q : Int) := rfl
            have hn1 : (ptOf cx cy r 2 (q + 1)).1 = (startOf cx cy r 2).1 + (0) * ((q + 1 : Nat) : Int) := rfl
            have hn2 : (ptOf cx cy r 2 (q + 1)).2 = (startOf cx cy r 2).2 + (-1) * ((q + 1 : Nat) : Int) := rfl
            obtain ⟨⟨px, py⟩, hpt⟩ : ∃ p, ptOf cx cy r 2 q = p := ⟨_, rfl⟩
            rw [hpt] at p0 p1 hp1 hp2
            dsimp only at p0 p1 hp1 hp2
            have hbx : -2000000 ≤ px ∧ px ≤ 2000000 := by omega
            have hby : -2000000 ≤ py ∧ py ≤ 2000000 := by omega
            have HN1 : Hid ((ptOf cx cy r 2 (q + 1)).1 = px) := by show _ = _; omega
            have HN2 : Hid ((ptOf cx cy r 2 (q + 1)).2 = py + (-1)) := by show _ = _; omega
            clear hp1 hp2 hn1 hn2 hst
            have HL : Hid (ringTo cx cy r 2 ++ sideTo cx cy r 2 (q + 1) = ringTo cx cy r 2 ++ sideTo cx cy r 2 q ++ [(px, py)]) := by
              show _ = _
              rw [sideTo_succ, hpt, List.append_assoc]
            clear hpt
            have hwx : IntKind.i64.wrap (px + (0)) = px + (0) := IntWalk.i64_in _ (by omega)
            have hwy : IntKind.i64.wrap (py + (-1)) = py + (-1) := IntWalk.i64_in _ (by omega)
            obtain ⟨fn, tmps, assign, body, hy, hR⟩ := HY.out T' _ (px, py) wr hJ (by show _ <+: _; rw [← HL.out]; exact ringTo_pre cx cy r 2 q (by omega) (by show q < 2 * r; omega))
            dsimp only at hy
            have G1 := Lib.hid g1
            have G2 := Lib.hid g2
            have G3 := Lib.hid g3
            clear g1 g2 g3
            gi_wp2
            refine hR.mono ?_
            rintro e A' ⟨rfl, hJ', hT⟩
            have c0 := (cell_same (hT _ G1.out) 0).trans p0
            have c1 := (cell_same (hT _ G1.out) 1).trans p1
            have e0 := (frozen_same (hT _ G1.out) 0).trans q0
            have e1 := (frozen_same (hT _ G1.out) 1).trans q1
            have d0 := (cell_same (hT _ G3.out) 0).trans s0
            have d1 := (cell_same (hT _ G3.out) 1).trans s1
            have hrB' := (cell_same (hT _ G2.out) 0).trans hrB
            have HJ2 := Lib.hid hJ'
            clear hT hJ' hJ hR hy p0 p1 q0 q1 s0 s1 hrB
            gi_wp2
            go_roundw
            case rel =>
              refine ⟨q + 1, by omega, by first | rfl | (congr 1; done) | (simp; done), T', ?_, G1.out, G2.out, G3.out, ?_, ?_, ?_, ?_, ?_, ?_, ?_⟩
              · rw [HL.out]; exact HPUT.out _ _ _ _ _ (HPUT.out _ _ _ _ _ HJ2.out G1.out) G1.out
              · rw [HN1.out, World.cell?_setCell_other _ _ _ _ (by simp)]; exact World.cell?_setCell_same' _ _ _ (by rw [c0]; rfl)
              · rw [HN2.out]; exact World.cell?_setCell_same' _ _ _ (by rw [World.cell?_setCell_other _ _ _ _ (by simp), c1]; rfl)
              · rw [World.frozen?_setCell, World.frozen?_setCell]; exact e0
              · rw [World.frozen?_setCell, World.frozen?_setCell]; exact e1
              · rw [World.cell?_setCell_far _ _ _ _ (by dsimp only; omega), World.cell?_setCell_far _ _ _ _ (by dsimp only; omega)]; exact d0
              · rw [World.cell?_setCell_far _ _ _ _ (by dsimp only; omega), World.cell?_setCell_far _ _ _ _ (by dsimp only; omega)]; exact d1
              · rw [World.cell?_setCell_far _ _ _ _ (by dsimp only; omega), World.cell?_setCell_far _ _ _ _ (by dsimp only; omega)]; exact hrB'
            case measure => simp only [intOf]; first | omega | (simp [intOf]; omega)
          · obtain rfl : 2 * r = q := by omega
            have HRT : Hid (ringTo cx cy r 3 = ringTo cx cy r 2 ++ sideTo cx cy r 2 (2 * r)) := by
              show _ ++ sideTo cx cy r 2 (2 * r) = _
              first | rfl | rw [Nat.one_mul]
            have HST : Hid (startOf cx cy r 3 = ptOf cx cy r 2 (2 * r)) := by
              show ptOf cx cy r 2 (2 * r) = _
              first | rfl | rw [Nat.one_mul]
            gi_wp2
            obtain ⟨T', hJ, g1, g2, g3, p0, p1, q0, q1, s0, s1, hrB⟩ := HI.out
            refine ⟨⟨3, by omega, rfl, T', by rw [HRT.out]; exact hJ, g1, g2, by rw [HST.out]; exact p0, by rw [HST.out]; exact p1, q0, q1, hrB⟩, by simp [intOf]⟩
      · obtain ⟨T, hJ, hT1, hT2, p0, p1, q0, q1, hrB⟩ := HI.out
        clear HI
        have hBrwr : Br < wr.heap.size := HSZ.out _ _ _ hJ _ hT2
        have hatwr : W.heap.size < wr.heap.size := HSZ.out _ _ _ hJ _ hT1
        have HJ := Lib.hid hJ
        have HT1 := Lib.hid hT1
        have HT2 := Lib.hid hT2
        have HP0 := Lib.hid p0
        have HP1 := Lib.hid p1
        have HQ0 := Lib.hid q0
        have HQ1 := Lib.hid q1
        have HRB := Lib.hid hrB
        clear hJ hT1 hT2 p0 p1 q0 q1
        have hmr : IntKind.i64.wrap (2 * (r : Int)) = 2 * (r : Int) := IntWalk.i64_in _ (by omega)
        have hix := side_at3
        simp only [Int.natCast_zero, Int.natCast_one, Int.reduceNeg, Int.cast_ofNat_Int] at hix ⊢
        gi_wp2
        clear hix hrB
        gi_loopw [22] (fun i wr2 => ∃ q : Nat, q ≤ 2 * r ∧ i = .int .i64 q ∧ Hid (∃ T', J T' (ringTo cx cy r 3 ++ sideTo cx cy r 3 q) wr2 ∧ T' W.heap.size ∧ T' Br ∧ T' wr.heap.size ∧ wr2.cell? ⟨W.heap.size, 0, none⟩ = some (.int .i64 (ptOf cx cy r 3 q).1) ∧ wr2.cell? ⟨W.heap.size, 1, none⟩ = some (.int .i64 (ptOf cx cy r 3 q).2) ∧ wr2.frozen? ⟨W.heap.size, 0, none⟩ = false ∧ wr2.frozen? ⟨W.heap.size, 1, none⟩ = false ∧ wr2.cell? ⟨wr.heap.size, 0, none⟩ = some (.int .i64 (1)) ∧ wr2.cell? ⟨wr.heap.size, 1, none⟩ = some (.int .i64 (0)) ∧ wr2.cell? ⟨Br, 0, none⟩ = some (.int .i64 r))) (fun i _ => 2 * r - (intOf i).toNat)
        case atStart =>
          refine ⟨0, Nat.zero_le _, rfl, (fun b => T b ∨ b = wr.heap.size), by rw [show sideTo cx cy r 3 0 = [] from rfl, List.append_nil]; exact HNEW.out _ _ _ _ HJ.out, .inl HT1.out, .inl HT2.out, .inr rfl, by rw [ptOf_zero]; exact cellA _ HP0.out, by rw [ptOf_zero]; exact cellA _ HP1.out, frozA _ HP0.out HQ0.out, frozA _ HP1.out HQ1.out, by simp [go_sem], by simp [go_sem], cellA _ HRB.out⟩
        case round =>
          obtain ⟨q, hq, rfl, HI⟩ := hrel
          by_cases hlt : q < 2 * r
          · obtain ⟨T', hJ, g1, g2, g3, p0, p1, q0, q1, s0, s1, hrB⟩ := HI.out
            clear HI
            have hlI : (q : Int) < 2 * (r : Int) := by omega
            have hst := start_in cx cy r 3 (by omega) hcx hcy hr
            have hp1 : (ptOf cx cy r 3 q).1 = (startOf cx cy r 3).1 + (1) * (q : Int) := rfl
            have hp2 : (ptOf cx cy r 3 q).2 = (startOf cx cy r 3).2 + (0) * (q : Int) := rfl
            have hn1 : (ptOf cx cy r 3 (q + 1)).1 = (startOf cx cy r 3).1 + (1) * ((q + 1 : Nat) : Int) := rfl
            have hn2 : (ptOf cx cy r 3 (q + 1)).2 = (startOf cx cy r 3).2 + (0) * ((q + 1 : Nat) : Int) := rfl
            obtain ⟨⟨px, py⟩, hpt⟩ : ∃ p, ptOf cx cy r 3 q = p := ⟨_, rfl⟩
            rw [hpt] at p0 p1 hp1 hp2
            dsimp only at p0 p1 hp1 hp2
            have hbx : -2000000 ≤ px ∧ px ≤ 2000000 := by omega
            have hby : -2000000 ≤ py ∧ py ≤ 2000000 := by omega
            have HN1 : Hid ((ptOf cx cy r 3 (q + 1)).1 = px + (1)) := by show _ = _; omega
            have HN2 : Hid ((ptOf cx cy r 3 (q + 1)).2 = py) := by show _ = _; omega
            clear hp1 hp2 hn1 hn2 hst
            have HL : Hid (ringTo cx cy r 3 ++ sideTo cx cy r 3 (q + 1) = ringTo cx cy r 3 ++ sideTo cx cy r 3 q ++ [(px, py)]) := by
              show _ = _
              rw [sideTo_succ, hpt, List.append_assoc]
            clear hpt
            have hwx : IntKind.i64.wrap (px + (1)) = px + (1) := IntWalk.i64_in _ (by omega)
            have hwy : IntKind.i64.wrap (py + (0)) = py + (0) := IntWalk.i64_in _ (by omega)
            obtain ⟨fn, tmps, assign, body, hy, hR⟩ := HY.out T' _ (px, py) wr hJ (by show _ <+: _; rw [← HL.out]; exact ringTo_pre cx cy r 3 q (by omega) (by show q < 2 * r; omega))
            dsimp only at hy
            have G1 := Lib.hid g1
            have G2 := Lib.hid g2
            have G3 := Lib.hid g3
            clear g1 g2 g3
            gi_wp2
            refine hR.mono ?_
            rintro e A' ⟨rfl, hJ', hT⟩
            have c0 := (cell_same (hT _ G1.out) 0).trans p0
            have c1 := (cell_same (hT _ G1.out) 1).trans p1
            have e0 := (frozen_same (hT _ G1.out) 0).trans q0
            have e1 := (frozen_same (hT _ G1.out) 1).trans q1
            have d0 := (cell_same (hT _ G3.out) 0).trans s0
            have d1 := (cell_same (hT _ G3.out) 1).trans s1
            have hrB' := (cell_same (hT _ G2.out) 0).trans hrB
            have HJ2 := Lib.hid hJ'
            clear hT hJ' hJ hR hy p0 p1 q0 q1 s0 s1 hrB
            gi_wp2
            go_roundw
            case rel =>
              refine ⟨q + 1, by omega, by first | rfl | (congr 1; done) | (simp; done), T', ?_, G1.out, G2.out, G3.out, ?_, ?_, ?_, ?_, ?_, ?_, ?_⟩
              · rw [HL.out]; exact HPUT.out _ _ _ _ _ (HPUT.out _ _ _ _ _ HJ2.out G1.out) G1.out
              · rw [HN1.out, World.cell?_setCell_other _ _ _ _ (by simp)]; exact World.cell?_setCell_same' _ _ _ (by rw [c0]; rfl)
              · rw [HN2.out]; exact World.cell?_setCell_same' _ _ _ (by rw [World.cell?_setCell_other _ _ _ _ (by simp), c1]; rfl)
              · rw [World.frozen?_setCell, World.frozen?_setCell]; exact e0
              · rw [World.frozen?_setCell, World.frozen?_setCell]; exact e1
              · rw [World.cell?_setCell_far _ _ _ _ (by dsimp only; omega), World.cell?_setCell_far _ _ _ _ (by dsimp only; omega)]; exact d0
              · rw [World.cell?_setCell_far _ _ _ _ (by dsimp only; omega), World.cell?_setCell_far _ _ _ _ (by dsimp only; omega)]; exact d1
              · rw [World.cell?_setCell_far _ _ _ _ (by dsimp only; omega), World.cell?_setCell_far _ _ _ _ (by dsimp only; omega)]; exact hrB'
            case measure => simp only [intOf]; first | omega | (simp [intOf]; omega)
          · obtain rfl : 2 * r = q := by omega
            have HRT : Hid (ringTo cx cy r 4 = ringTo cx cy r 3 ++ sideTo cx cy r 3 (2 * r)) := by
              show _ ++ sideTo cx cy r 3 (2 * r) = _
              first | rfl | rw [Nat.one_mul]
            have HST : Hid (startOf cx cy r 4 = ptOf cx cy r 3 (2 * r)) := by
              show ptOf cx cy r 3 (2 * r) = _
              first | rfl | rw [Nat.one_mul]
            gi_wp2
            obtain ⟨T', hJ, g1, g2, g3, p0, p1, q0, q1, s0, s1, hrB⟩ := HI.out
            refine ⟨⟨4, by omega, rfl, T', by rw [HRT.out]; exact hJ, g1, g2, by rw [HST.out]; exact p0, by rw [HST.out]; exact p1, q0, q1, hrB⟩, by simp [intOf]⟩
      · obtain ⟨T, hJ, hT1, hT2, p0, p1, q0, q1, hrB⟩ := HI.out
        clear HI
        have hBrwr : Br < wr.heap.size := HSZ.out _ _ _ hJ _ hT2
        have hatwr : W.heap.size < wr.heap.size := HSZ.out _ _ _ hJ _ hT1
        have HJ := Lib.hid hJ
        have HT1 := Lib.hid hT1
        have HT2 := Lib.hid hT2
        have HP0 := Lib.hid p0
        have HP1 := Lib.hid p1
        have HQ0 := Lib.hid q0
        have HQ1 := Lib.hid q1
        have HRB := Lib.hid hrB
        clear hJ hT1 hT2 p0 p1 q0 q1
        have hmr : IntKind.i64.wrap (2 * (r : Int)) = 2 * (r : Int) := IntWalk.i64_in _ (by omega)
        have hix := side_at4
        simp only [Int.natCast_zero, Int.natCast_one, Int.reduceNeg, Int.cast_ofNat_Int] at hix ⊢
        gi_wp2
        clear hix hrB
        gi_loopw [22] (fun i wr2 => ∃ q : Nat, q ≤ r ∧ i = .int .i64 q ∧ Hid (∃ T', J T' (ringTo cx cy r 4 ++ sideTo cx cy r 4 q) wr2 ∧ T' W.heap.size ∧ T' Br ∧ T' wr.heap.size ∧ wr2.cell? ⟨W.heap.size, 0, none⟩ = some (.int .i64 (ptOf cx cy r 4 q).1) ∧ wr2.cell? ⟨W.heap.size, 1, none⟩ = some (.int .i64 (ptOf cx cy r 4 q).2) ∧ wr2.frozen? ⟨W.heap.size, 0, none⟩ = false ∧ wr2.frozen? ⟨W.heap.size, 1, none⟩ = false ∧ wr2.cell? ⟨wr.heap.size, 0, none⟩ = some (.int .i64 (0)) ∧ wr2.cell? ⟨wr.heap.size, 1, none⟩ = some (.int .i64 (1)) ∧ wr2.cell? ⟨Br, 0, none⟩ = some (.int .i64 r))) (fun i _ => r - (intOf i).toNat)
        case atStart =>
          refine ⟨0, Nat.zero_le _, rfl, (fun b => T b ∨ b = wr.heap.size), by rw [show sideTo cx cy r 4 0 = [] from rfl, List.append_nil]; exact HNEW.out _ _ _ _ HJ.out, .inl HT1.out, .inl HT2.out, .inr rfl, by rw [ptOf_zero]; exact cellA _ HP0.out, by rw [ptOf_zero]; exact cellA _ HP1.out, frozA _ HP0.out HQ0.out, frozA _ HP1.out HQ1.out, by simp [go_sem], by simp [go_sem], cellA _ HRB.out⟩
        case round =>
          obtain ⟨q, hq, rfl, HI⟩ := hrel
          by_cases hlt : q < r
          · obtain ⟨T', hJ, g1, g2, g3, p0, p1, q0, q1, s0, s1, hrB⟩ := HI.out
            clear HI
            have hlI : (q : Int) < (r : Int) := by omega
            have hst := start_in cx cy r 4 (by omega) hcx hcy hr
            have hp1 : (ptOf cx cy r 4 q).1 = (startOf cx cy r 4).1 + (0) * (q : Int) := rfl
            have hp2 : (ptOf cx cy r 4 q).2 = (startOf cx cy r 4).2 + (1) * (q : Int) := rfl
            have hn1 : (ptOf cx cy r 4 (q + 1)).1 = (startOf cx cy r 4).1 + (0) * ((q + 1 : Nat) : Int) := rfl
            have hn2 : (ptOf cx cy r 4 (q + 1)).2 = (startOf cx cy r 4).2 + (1) * ((q + 1 : Nat) : Int) := rfl
            obtain ⟨⟨px, py⟩, hpt⟩ : ∃ p, ptOf cx cy r 4 q = p := ⟨_, rfl⟩
            rw [hpt] at p0 p1 hp1 hp2
            dsimp only at p0 p1 hp1 hp2
            have hbx : -2000000 ≤ px ∧ px ≤ 2000000 := by omega
            have hby : -2000000 ≤ py ∧ py ≤ 2000000 := by omega
            have HN1 : Hid ((ptOf cx cy r 4 (q + 1)).1 = px) := by show _ = _; omega
            have HN2 : Hid ((ptOf cx cy r 4 (q + 1)).2 = py + (1)) := by show _ = _; omega
            clear hp1 hp2 hn1 hn2 hst
            have HL : Hid (ringTo cx cy r 4 ++ sideTo cx cy r 4 (q + 1) = ringTo cx cy r 4 ++ sideTo cx cy r 4 q ++ [(px, py)]) := by
              show _ = _
              rw [sideTo_succ, hpt, List.append_assoc]
            clear hpt
            have hwx : IntKind.i64.wrap (px + (0)) = px + (0) := IntWalk.i64_in _ (by omega)
            have hwy : IntKind.i64.wrap (py + (1)) = py + (1) := IntWalk.i64_in _ (by omega)
            obtain ⟨fn, tmps, assign, body, hy, hR⟩ := HY.out T' _ (px, py) wr hJ (by show _ <+: _; rw [← HL.out]; exact ringTo_pre cx cy r 4 q (by omega) (by show q < 1 * r; omega))
            dsimp only at hy
            have G1 := Lib.hid g1
            have G2 := Lib.hid g2
            have G3 := Lib.hid g3
            clear g1 g2 g3
            gi_wp2
            refine hR.mono ?_
            rintro e A' ⟨rfl, hJ', hT⟩
            have c0 := (cell_same (hT _ G1.out) 0).trans p0
            have c1 := (cell_same (hT _ G1.out) 1).trans p1
            have e0 := (frozen_same (hT _ G1.out) 0).trans q0
            have e1 := (frozen_same (hT _ G1.out) 1).trans q1
            have d0 := (cell_same (hT _ G3.out) 0).trans s0
            have d1 := (cell_same (hT _ G3.out) 1).trans s1
            have hrB' := (cell_same (hT _ G2.out) 0).trans hrB
            have HJ2 := Lib.hid hJ'
            clear hT hJ' hJ hR hy p0 p1 q0 q1 s0 s1 hrB
            gi_wp2
            go_roundw
            case rel =>
              refine ⟨q + 1, by omega, by first | rfl | (congr 1; done) | (simp; done), T', ?_, G1.out, G2.out, G3.out, ?_, ?_, ?_, ?_, ?_, ?_, ?_⟩
              · rw [HL.out]; exact HPUT.out _ _ _ _ _ (HPUT.out _ _ _ _ _ HJ2.out G1.out) G1.out
              · rw [HN1.out, World.cell?_setCell_other _ _ _ _ (by simp)]; exact World.cell?_setCell_same' _ _ _ (by rw [c0]; rfl)
              · rw [HN2.out]; exact World.cell?_setCell_same' _ _ _ (by rw [World.cell?_setCell_other _ _ _ _ (by simp), c1]; rfl)
              · rw [World.frozen?_setCell, World.frozen?_setCell]; exact e0
              · rw [World.frozen?_setCell, World.frozen?_setCell]; exact e1
              · rw [World.cell?_setCell_far _ _ _ _ (by dsimp only; omega), World.cell?_setCell_far _ _ _ _ (by dsimp only; omega)]; exact d0
              · rw [World.cell?_setCell_far _ _ _ _ (by dsimp only; omega), World.cell?_setCell_far _ _ _ _ (by dsimp only; omega)]; exact d1
              · rw [World.cell?_setCell_far _ _ _ _ (by dsimp only; omega), World.cell?_setCell_far _ _ _ _ (by dsimp only; omega)]; exact hrB'
            case measure => simp only [intOf]; first | omega | (simp [intOf]; omega)
          · obtain rfl : r = q := by omega
            have HRT : Hid (ringTo cx cy r 5 = ringTo cx cy r 4 ++ sideTo cx cy r 4 (r)) := by
              show _ ++ sideTo cx cy r 4 (1 * r) = _
              first | rfl | rw [Nat.one_mul]
            have HST : Hid (startOf cx cy r 5 = ptOf cx cy r 4 (r)) := by
              show ptOf cx cy r 4 (1 * r) = _
              first | rfl | rw [Nat.one_mul]
            gi_wp2
            obtain ⟨T', hJ, g1, g2, g3, p0, p1, q0, q1, s0, s1, hrB⟩ := HI.out
            refine ⟨⟨5, by omega, rfl, T', by rw [HRT.out]; exact hJ, g1, g2, by rw [HST.out]; exact p0, by rw [HST.out]; exact p1, q0, q1, hrB⟩, by simp [intOf]⟩
    · obtain rfl : k = 5 := by omega
      gi_wp2
      go_end0
      obtain ⟨T, hJ, _⟩ := HI.out
      exact ⟨⟨_, rfl⟩, T, _, rfl, hJ⟩

end Go.Proofs.YtjjflbnopphciaaGreatDoor
