import Derived.Test.YtkemoffagdilgaaGreatDoorW23
import Derived.Test.YtkemoffagdilgaaGreatDoorRows
import Derived.Test.YtkemoffagdilgaaGreatDoorTie
import Derived.ProofKit
import Derived.LaidMore
import Derived.OpenShut
import Derived.Stop.Joined
import Derived.Lib.LaidTab
namespace Go.Proofs.YtkemoffagdilgaaGreatDoor
open Go.ChangeShapes Go.WideShapes Go.ChangeAt Go.RowKit

theorem own : ownKnob Tryz.prog.godebug = none := by kernel_rfl
theorem laidOut : laidOutB Tryz.prog = true := by kernel_rfl
theorem gPred : Tryz.prog.globalNamed "lacquer/transfer.predictors" = some 0 := by kernel_rfl
theorem tPred : (Tryz.prog.globals[0]?).map (·.type) = some 108 := by kernel_rfl
theorem underTab : Tryz.prog.underlying 108 = some (.array 3 107) := by kernel_rfl
theorem underPair : Tryz.prog.underlying 107 = some (.array 2 3) := by kernel_rfl
theorem underInt : Tryz.prog.underlying 3 = some (.int .i64) := by kernel_rfl
theorem cellsInt : Tryz.prog.cellsOf 3 = 1 := by kernel_rfl
theorem cellsPair : Tryz.prog.cellsOf 107 = 2 := by kernel_rfl

/-- What the rows of this seat list: the table of predictors. -/
def laidP : List (String × DataW Unit) := [("lacquer/transfer.predictors", Rows.laid_lacquer_transfer_predictors)]

theorem take_two {α : Type} {l : List α} {k : Nat} {a b : α} (h : (l.drop k).take 2 = [a, b]) : l[k]? = some a ∧ l[k + 1]? = some b := by
  have h0 := congrArg (fun x : List α => x[0]?) h
  have h1 := congrArg (fun x : List α => x[1]?) h
  simp only [List.getElem?_take, List.getElem?_drop] at h0 h1
  exact ⟨by simpa using h0, by simpa using h1⟩

theorem of_laid {W : World} (h : laidMetH Tryz.prog laidP W) : Laid W := by
  rw [MakeChecks.laidMetH_plain _ _ _ (by kernel_rfl)] at h
  obtain ⟨ps, ⟨g0, t0, cs0, f0, p0, q0, hg0, ht0, hv0, hd0, _, _⟩, _, _⟩ := h
  obtain rfl := Option.some.inj (gPred.symm.trans hg0)
  obtain rfl := Option.some.inj (tPred.symm.trans ht0)
  obtain ⟨xs, m, rfl, hx, hlen, hn3, hel⟩ := DataW.trod_array underTab hd0
  simp only [Prod.mk.injEq, DataW.agg.injEq, Rows.laid_lacquer_transfer_predictors] at hx
  have hcell : ∀ j, W.cell? ⟨0, j, none⟩ = cs0.toList[j]? := fun j => by
    have := World.var?_cell hg0 hv0 j
    rw [this]; simp
  match xs, hn3, hx, hel with
  | [x0, x1, x2], _, hx, hel =>
    simp only [List.map_cons, List.map_nil, List.cons.injEq] at hx
    obtain ⟨⟨e0, e1, e2, _⟩, _⟩ := hx
    have row : ∀ (i : Nat) (a b : Int) (x : DataW Unit × List MemPlace), i < 3 → [x0, x1, x2][i]? = some x → x.1 = .agg [.lit (.int .i64 a), .lit (.int .i64 b)] → W.cell? ⟨0, i * 2, none⟩ = some (.int .i64 a) ∧ W.cell? ⟨0, i * 2 + 1, none⟩ = some (.int .i64 b) := by
      intro i a b x hi hxi hx1
      have hq := (hel i hi).trans hxi
      rw [cellsPair] at hq
      obtain ⟨d, pl⟩ := x
      simp only at hx1
      subst hx1
      have := Lib.cells_of_tab (k := .i64) (zs := [a, b]) underPair underInt cellsInt cellsPair (show DataW.trod _ Tryz.prog W 0 _ false m 107 _ = some (Lib.tabData .i64 [a, b], pl) from hq)
      have t := take_two (show List.take 2 (List.drop (i * 2) cs0.toList) = [Value.int .i64 a, Value.int .i64 b] from this)
      rw [hcell, hcell]
      exact t
    have r0 := row 0 0 0 x0 (by omega) rfl e0.symm
    have r1 := row 1 1 0 x1 (by omega) rfl e1.symm
    have r2 := row 2 2 (-1) x2 (by omega) rfl e2.symm
    refine ⟨block_lt_of_cell r0.1, fun p hp => ?_, fun p hp => ?_⟩
    · match p, hp with
      | 0, _ => exact r0.1
      | 1, _ => exact r1.1
      | 2, _ => exact r2.1
    · match p, hp with
      | 0, _ => exact r0.2
      | 1, _ => exact r1.2
      | 2, _ => exact r2.2

theorem door_met (os : Os) (args : Array Value) : laidMetH Tryz.prog laidP ((World.doorLaid Tryz.prog 400 os).forCall (fun _ _ => 0) ⟨#[], args, []⟩).memory :=
  laidMetH_of_parts3 (fuel := 8) (laidMet_of_run' 8 (by kernel_rfl) (by kernel_rfl)) (by kernel_rfl) (by kernel_rfl)

end Go.Proofs.YtkemoffagdilgaaGreatDoor
