import Derived.Test.YtjjflbnopphciaaGreatDoorA2
import Derived.Test.YtjjflbnopphciaaGreatDoorRows
import Derived.Test.YtjjflbnopphciaaGreatDoorTie
import Derived.ProofKit
import Derived.LaidMore
import Derived.OpenShut
import Derived.Stop.Joined
import Derived.Lib.LaidTab
namespace Go.Proofs.YtjjflbnopphciaaGreatDoor
open Go.ChangeShapes Go.WideShapes Go.ChangeAt Go.RowKit

theorem own : ownKnob Tryz.prog.godebug = none := by kernel_rfl
theorem laidOut : laidOutB Tryz.prog = true := by kernel_rfl
theorem gSides : Tryz.prog.globalNamed "lacquer/groove.sides" = some 0 := by kernel_rfl
theorem tSides : (Tryz.prog.globals[0]?).map (·.type) = some 155 := by kernel_rfl
theorem underSides : Tryz.prog.underlying 155 = some (.array 5 154) := by kernel_rfl
theorem cellsInt1 : Tryz.prog.cellsOf 3 = 1 := by kernel_rfl
theorem cellsPt : Tryz.prog.cellsOf 43 = 2 := by kernel_rfl
theorem cellsSide : Tryz.prog.cellsOf 154 = 3 := by kernel_rfl

/-- What the rows of this seat list: the table of the sides. -/
def laidP : List (String × DataW Unit) := [("lacquer/groove.sides", Rows.laid_lacquer_groove_sides)]

section
variable {H : Type} {enc : TypeId × Value → H} {w : World} {base : Nat} {spare : Nat → Bool} {held : Bool} {fuel : Nat} {cs : List Value} {x : DataW H × List MemPlace}
theorem pt_cells {a b : Int} (h : DataW.trod enc Tryz.prog w base spare held fuel 43 cs = some x) (hx : x.1 = .agg [.lit (.int .i64 a), .lit (.int .i64 b)]) : cs = [.int .i64 a, .int .i64 b] := by
  obtain ⟨y0, y1, n, rfl, hl, h0, h1⟩ := trod_struct2 Tryz.underlying43 h
  rw [cellsPt] at hl
  dsimp only at h0 h1
  rw [cellsInt1] at h0 h1
  obtain ⟨n0, e0, rfl, _⟩ := DataW.trod_int Tryz.underlying3 h0
  obtain ⟨n1, e1, rfl, _⟩ := DataW.trod_int Tryz.underlying3 h1
  simp only [DataW.agg.injEq, List.cons.injEq, DataW.lit.injEq, Lit.int.injEq, true_and, and_true] at hx
  obtain ⟨rfl, rfl⟩ := hx
  match cs, hl with
  | [c0, c1], _ =>
    simp at e0 e1
    rw [e0, e1]
theorem side_cells {a b c : Int} (h : DataW.trod enc Tryz.prog w base spare held fuel 154 cs = some x) (hx : x.1 = .agg [.agg [.lit (.int .i64 a), .lit (.int .i64 b)], .lit (.int .i64 c)]) : cs = [.int .i64 a, .int .i64 b, .int .i64 c] := by
  obtain ⟨y0, y1, n, rfl, hl, h0, h1⟩ := trod_struct2 Tryz.underlying154 h
  rw [cellsSide] at hl
  dsimp only at h0 h1
  rw [cellsInt1] at h1
  rw [cellsPt] at h0
  obtain ⟨n1, e1, rfl, _⟩ := DataW.trod_int Tryz.underlying3 h1
  simp only [DataW.agg.injEq, List.cons.injEq, DataW.lit.injEq, Lit.int.injEq, true_and, and_true] at hx
  obtain ⟨hx0, rfl⟩ := hx
  have e0 := pt_cells h0 hx0
  match cs, hl with
  | [c0, c1, c2], _ =>
    simp at e0 e1
    rw [e0.1, e0.2, e1]
end

theorem of_laid {W : World} (h : laidMetH Tryz.prog laidP W) : LaidSides W := by
  rw [MakeChecks.laidMetH_plain _ _ _ (by kernel_rfl)] at h
  obtain ⟨ps, ⟨g0, t0, cs0, f0, p0, q0, hg0, ht0, hv0, hd0, _, _⟩, _, _⟩ := h
  obtain rfl := Option.some.inj (gSides.symm.trans hg0)
  obtain rfl := Option.some.inj (tSides.symm.trans ht0)
  obtain ⟨xs, m, rfl, hx, hlen, hn5, hel⟩ := DataW.trod_array underSides hd0
  simp only [Prod.mk.injEq, DataW.agg.injEq, Rows.laid_lacquer_groove_sides] at hx
  have hcell : ∀ j, W.cell? ⟨0, j, none⟩ = cs0.toList[j]? := fun j => by
    have := World.var?_cell hg0 hv0 j
    rw [this]; simp
  match xs, hn5, hx, hel with
  | [x0, x1, x2, x3, x4], _, hx, hel =>
    simp only [List.map_cons, List.map_nil, List.cons.injEq] at hx
    obtain ⟨⟨e0, e1, e2, e3, e4, _⟩, _⟩ := hx
    have row : ∀ (i : Nat) (a b c : Int) (x : DataW Unit × List MemPlace), i < 5 → [x0, x1, x2, x3, x4][i]? = some x → x.1 = .agg [.agg [.lit (.int .i64 a), .lit (.int .i64 b)], .lit (.int .i64 c)] →
        W.cell? ⟨0, 3 * i, none⟩ = some (.int .i64 a) ∧ W.cell? ⟨0, 3 * i + 1, none⟩ = some (.int .i64 b) ∧ W.cell? ⟨0, 3 * i + 2, none⟩ = some (.int .i64 c) := by
      intro i a b c x hi hxi hx1
      have hq := (hel i hi).trans hxi
      rw [cellsSide] at hq
      have t := side_cells hq hx1
      have t0 := congrArg (fun l : List Value => l[0]?) t
      have t1 := congrArg (fun l : List Value => l[1]?) t
      have t2 := congrArg (fun l : List Value => l[2]?) t
      simp only [List.getElem?_take, List.getElem?_drop] at t0 t1 t2
      rw [hcell, hcell, hcell, Nat.mul_comm 3 i]
      exact ⟨by simpa using t0, by simpa using t1, by simpa using t2⟩
    have r0 := row 0 0 1 1 x0 (by omega) rfl e0.symm
    have r1 := row 1 (-1) 0 2 x1 (by omega) rfl e1.symm
    have r2 := row 2 0 (-1) 2 x2 (by omega) rfl e2.symm
    have r3 := row 3 1 0 2 x3 (by omega) rfl e3.symm
    have r4 := row 4 0 1 1 x4 (by omega) rfl e4.symm
    refine ⟨block_lt_of_cell r0.1, fun j hj => ?_⟩
    match j, hj with
    | 0, _ => exact r0
    | 1, _ => exact r1
    | 2, _ => exact r2
    | 3, _ => exact r3
    | 4, _ => exact r4

theorem door_met (os : Os) (args : Array Value) : laidMetH Tryz.prog laidP ((World.doorLaid Tryz.prog 400 os).forCall (fun _ _ => 0) ⟨#[], args, []⟩).memory :=
  laidMetH_of_parts3 (fuel := 8) (laidMet_of_run' 8 (by kernel_rfl) (by kernel_rfl)) (by kernel_rfl) (by kernel_rfl)

end Go.Proofs.YtjjflbnopphciaaGreatDoor
