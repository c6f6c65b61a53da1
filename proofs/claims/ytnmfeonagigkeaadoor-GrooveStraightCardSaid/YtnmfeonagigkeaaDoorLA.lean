import Derived.Test.YtnmfeonagigkeaaDoorA2
import Derived.Test.YtnmfeonagigkeaaDoorRows
import Derived.Test.YtnmfeonagigkeaaDoorTie
import Derived.ProofKit
import Derived.LaidMore
import Derived.OpenShut
import Derived.Stop.Joined
import Derived.Lib.LaidTab
import Derived.Deep.Slices
import Derived.Test.YtnmfeonagigkeaaDoorS0
namespace Go.Proofs.YtnmfeonagigkeaaDoor
open Go.ChangeShapes Go.WideShapes Go.ChangeAt Go.RowKit

theorem own : ownKnob Tryd.prog.godebug = none := by kernel_rfl
theorem laidOut : laidOutB Tryd.prog = true := by kernel_rfl
theorem gSides : Tryd.prog.globalNamed "lacquer/groove.sides" = some 0 := by kernel_rfl
theorem tSides : (Tryd.prog.globals[0]?).map (·.type) = some 129 := by kernel_rfl
theorem underSides : Tryd.prog.underlying 129 = some (.array 5 128) := by kernel_rfl
theorem cellsInt1 : Tryd.prog.cellsOf 3 = 1 := by kernel_rfl
theorem cellsPt : Tryd.prog.cellsOf 26 = 2 := by kernel_rfl
theorem cellsSide : Tryd.prog.cellsOf 128 = 3 := by kernel_rfl

/-- What the rows of this seat list: the table of the sides. -/
def laidP : List (String × DataW Unit) := [("lacquer/groove.sides", Rows.laid_lacquer_groove_sides)]

section
variable {H : Type} {enc : TypeId × Value → H} {w : World} {base : Nat} {spare : Nat → Bool} {held : Bool} {fuel : Nat} {cs : List Value} {x : DataW H × List MemPlace}
theorem pt_cells {a b : Int} (h : DataW.trod enc Tryd.prog w base spare held fuel 26 cs = some x) (hx : x.1 = .agg [.lit (.int .i64 a), .lit (.int .i64 b)]) : cs = [.int .i64 a, .int .i64 b] := by
  obtain ⟨y0, y1, n, rfl, hl, h0, h1⟩ := trod_struct2 Tryd.underlying26 h
  rw [cellsPt] at hl
  dsimp only at h0 h1
  rw [cellsInt1] at h0 h1
  obtain ⟨n0, e0, rfl, _⟩ := DataW.trod_int Tryd.underlying3 h0
  obtain ⟨n1, e1, rfl, _⟩ := DataW.trod_int Tryd.underlying3 h1
  simp only [DataW.agg.injEq, List.cons.injEq, DataW.lit.injEq, Lit.int.injEq, true_and, and_true] at hx
  obtain ⟨rfl, rfl⟩ := hx
  match cs, hl with
  | [c0, c1], _ =>
    simp at e0 e1
    rw [e0, e1]
theorem side_cells {a b c : Int} (h : DataW.trod enc Tryd.prog w base spare held fuel 128 cs = some x) (hx : x.1 = .agg [.agg [.lit (.int .i64 a), .lit (.int .i64 b)], .lit (.int .i64 c)]) : cs = [.int .i64 a, .int .i64 b, .int .i64 c] := by
  obtain ⟨y0, y1, n, rfl, hl, h0, h1⟩ := trod_struct2 Tryd.underlying128 h
  rw [cellsSide] at hl
  dsimp only at h0 h1
  rw [cellsInt1] at h1
  rw [cellsPt] at h0
  obtain ⟨n1, e1, rfl, _⟩ := DataW.trod_int Tryd.underlying3 h1
  simp only [DataW.agg.injEq, List.cons.injEq, DataW.lit.injEq, Lit.int.injEq, true_and, and_true] at hx
  obtain ⟨hx0, rfl⟩ := hx
  have e0 := pt_cells h0 hx0
  match cs, hl with
  | [c0, c1, c2], _ =>
    simp at e0 e1
    rw [e0.1, e0.2, e1]
end

theorem of_laid {W : World} (h : laidMetH Tryd.prog laidP W) : LaidSides W := by
  rw [MakeChecks.laidMetH_plain _ _ _ (by kernel_rfl)] at h
  obtain ⟨ps, ⟨g0, t0, cs0, f0, p0, q0, hg0, ht0, hv0, hd0, _, _⟩, _, _⟩ := h
  obtain rfl := Option.some.inj (gSides.symm.trans hg0)
  obtain rfl := Option.some.inj (tSides.symm.trans ht0)
  obtain ⟨xs, m, rfl, hx, hlen, hn5, hel⟩ := DataW.trod_array underSides hd0
  simp only [Prod.mk.injEq, DataW.agg.injEq, Rows.laid_lacquer_groove_sides] at hx
  have hcell : ∀ j, W.cell? ⟨0, j, none⟩ = cs0.toList[j]? := fun j => by
    have := World.var?_cell hg0 hv0 j
    rw [this]; simp
  match xs, hn5, hx, hel with
  | [x0, x1, x2, x3, x4], _, hx, hel =>
    simp only [List.map_cons, List.map_nil, List.cons.injEq] at hx
    obtain ⟨⟨e0, e1, e2, e3, e4, _⟩, _⟩ := hx
    have row : ∀ (i : Nat) (a b c : Int) (x : DataW Unit × List MemPlace), i < 5 → [x0, x1, x2, x3, x4][i]? = some x → x.1 = .agg [.agg [.lit (.int .i64 a), .lit (.int .i64 b)], .lit (.int .i64 c)] →
        W.cell? ⟨0, 3 * i, none⟩ = some (.int .i64 a) ∧ W.cell? ⟨0, 3 * i + 1, none⟩ = some (.int .i64 b) ∧ W.cell? ⟨0, 3 * i + 2, none⟩ = some (.int .i64 c) := by
      intro i a b c x hi hxi hx1
      have hq := (hel i hi).trans hxi
      rw [cellsSide] at hq
      have t := side_cells hq hx1
      have t0 := congrArg (fun l : List Value => l[0]?) t
      have t1 := congrArg (fun l : List Value => l[1]?) t
      have t2 := congrArg (fun l : List Value => l[2]?) t
      simp only [List.getElem?_take, List.getElem?_drop] at t0 t1 t2
      rw [hcell, hcell, hcell, Nat.mul_comm 3 i]
      exact ⟨by simpa using t0, by simpa using t1, by simpa using t2⟩
    have r0 := row 0 0 1 1 x0 (by omega) rfl e0.symm
    have r1 := row 1 (-1) 0 2 x1 (by omega) rfl e1.symm
    have r2 := row 2 0 (-1) 2 x2 (by omega) rfl e2.symm
    have r3 := row 3 1 0 2 x3 (by omega) rfl e3.symm
    have r4 := row 4 0 1 1 x4 (by omega) rfl e4.symm
    refine ⟨block_lt_of_cell r0.1, fun j hj => ?_⟩
    match j, hj with
    | 0, _ => exact r0
    | 1, _ => exact r1
    | 2, _ => exact r2
    | 3, _ => exact r3
    | 4, _ => exact r4

theorem door_met (os : Os) (args : Array Value) : laidMetH Tryd.prog laidP ((World.doorLaid Tryd.prog 400 os).forCall (fun _ _ => 0) ⟨#[], args, []⟩).memory :=
  laidMetH_of_parts3 (fuel := 8) (laidMet_of_run' 8 (by kernel_rfl) (by kernel_rfl)) (by kernel_rfl) (by kernel_rfl)

end Go.Proofs.YtnmfeonagigkeaaDoor

namespace Go.Proofs.YtnmfeonagigkeaaDoor
open Go.ChangeShapes Go.WideShapes Go.ChangeAt Go.RowKit

/-- Numbers as they come in. -/
theorem open_rd {H : Type} {enc : TypeId × Value → H} {w : World} {base : Nat} {spare : Nat → Bool} {held : Bool} {A : Option Addr} {n c : Nat} {d : DataW H} {p : List MemPlace}
    (h : DataW.Trod enc Tryd.prog w base spare held 38 (.slice A n c) d p) : ∃ l, RdI w A n l ∧ n ≤ c ∧ c ≤ 9223372036854775807 ∧ (A = none → n = 0 ∧ c = 0) := by
  obtain ⟨fuel, hf⟩ := h
  rcases open_ints Tryd.underlying38 Tryd.underlying3 cellsInt1 hf with ⟨hcs, _⟩ | ⟨a, len, cap, zs, hcs, _, hl, hm, hz, _, hcell, _⟩
  · simp [Value.cells] at hcs
    obtain ⟨rfl, rfl, rfl⟩ := hcs
    exact ⟨[], ⟨rfl, fun h => absurd h (by omega)⟩, by omega, by omega, fun _ => ⟨rfl, rfl⟩⟩
  · simp [Value.cells] at hcs
    obtain ⟨rfl, rfl, rfl⟩ := hcs
    have hlen : n ≤ zs.length := by rw [hz]; split <;> omega
    refine ⟨zs.take n, ⟨by rw [List.length_take]; omega, fun hn => ⟨a, rfl, ?_, fun j hj => ?_⟩⟩, hl, by unfold maxLen at hm; omega, fun h => by cases h⟩
    · have := block_lt_of_cell (hcell 0 (by omega))
      rwa [addBlock] at this
    · rw [hcell j (by omega)]
      simp [List.getD_eq_getElem?_getD, List.getElem?_take, hj]

end Go.Proofs.YtnmfeonagigkeaaDoor

namespace Go.Proofs.YtnmfeonagigkeaaDoor
open Go.ChangeShapes Go.WideShapes Go.ChangeAt Go.RowKit
theorem cellsRng : Tryd.prog.cellsOf 28 = 2 := by kernel_rfl
section
variable {H : Type} {enc : TypeId × Value → H} {w : World} {base : Nat} {spare : Nat → Bool} {held : Bool} {fuel : Nat} {cs : List Value} {x : DataW H × List MemPlace}
theorem rng_cells (h : DataW.trod enc Tryd.prog w base spare held fuel 28 cs = some x) : ∃ a b, cs = [.int .i64 a, .int .i64 b] := by
  obtain ⟨y0, y1, n, rfl, hl, h0, h1⟩ := trod_struct2 Tryd.underlying28 h
  rw [cellsRng] at hl
  dsimp only at h0 h1
  rw [cellsInt1] at h0 h1
  obtain ⟨n0, e0, _, _⟩ := DataW.trod_int Tryd.underlying3 h0
  obtain ⟨n1, e1, _, _⟩ := DataW.trod_int Tryd.underlying3 h1
  match cs, hl with
  | [c0, c1], _ =>
    simp at e0 e1
    exact ⟨n0, n1, by rw [e0, e1]⟩

end
/-- Pairs as they come in. -/
theorem open_ranges {H : Type} {enc : TypeId × Value → H} {w : World} {base : Nat} {spare : Nat → Bool} {held : Bool} {A : Option Addr} {n c : Nat} {d : DataW H} {p : List MemPlace}
    (h : DataW.Trod enc Tryd.prog w base spare held 65 (.slice A n c) d p) : ∃ ps, RdP w A n ps ∧ n ≤ c ∧ (A = none → n = 0 ∧ c = 0) := by
  obtain ⟨fuel, hf⟩ := h
  rcases Deep.open_slice Tryd.underlying65 hf with ⟨hcs, _⟩ | ⟨a, len, cap, m, k, D, Pl, hcs, _, hl, hm, hz, _, hx⟩
  · simp [Value.cells] at hcs
    obtain ⟨rfl, rfl, rfl⟩ := hcs
    exact ⟨[], ⟨rfl, fun h => absurd h (by omega)⟩, by omega, fun _ => ⟨rfl, rfl⟩⟩
  · simp [Value.cells] at hcs
    obtain ⟨rfl, rfl, rfl⟩ := hcs
    have hlen : n ≤ m := by rw [hz]; split <;> omega
    obtain ⟨f, hf⟩ := Deep.choose_lt (α := Int × Int) (n := n) (p := fun i q => w.cell? (a.add (i * 2)) = some (.int .i64 q.1) ∧ w.cell? ((a.add (i * 2)).add 1) = some (.int .i64 q.2)) (fun i hi => by
      obtain ⟨cs, h1, h2⟩ := hx i (by omega)
      obtain ⟨y, z, rfl⟩ := rng_cells h2
      rw [cellsRng] at h1
      obtain ⟨_, _, h3⟩ := World.cells?_some h1
      have h4 := h3 0 (by omega)
      rw [addZ] at h4
      exact ⟨(y, z), h4, h3 1 (by omega)⟩)
    refine ⟨(List.range n).map f, ⟨by simp, fun hn => ⟨a, rfl, ?_, fun j hj => ?_⟩⟩, hl, fun h => by cases h⟩
    · have := block_lt_of_cell (hf 0 (by omega)).1
      rwa [addBlock] at this
    · have e : ((List.range n).map f).getD j (0, 0) = f j := by simp [List.getD_eq_getElem?_getD, hj]
      rw [e]
      exact hf j hj


end Go.Proofs.YtnmfeonagigkeaaDoor

namespace Go.Proofs.YtnmfeonagigkeaaDoor
open Go.ChangeShapes Go.WideShapes Go.ChangeAt Go.RowKit

theorem okWide_array {P : Program} {w : World} {r : Reach} {base : Nat} {t : TypeId} {v : Value} {n : Nat} {e : TypeId} (ht : P.underlying t = some (.array n e)) (h : Value.okWide P w r base t v) : ∃ cs, v = .agg cs ∧ cs.size = P.cellsOf t := by
  simp only [Value.okWide, ht] at h
  obtain ⟨cs, h1, h2, _⟩ := h
  exact ⟨cs, h1, h2⟩
theorem len3 {α : Type} (l : List α) (h : l.length = 3) : ∃ c0 c1 c2, l = [c0, c1, c2] := by
  match l, h with
  | [a, b, c], _ => exact ⟨a, b, c, rfl⟩
theorem arr3Under : Tryd.prog.underlying 73 = some (.array 3 3) := by kernel_rfl
set_option maxRecDepth 100000 in
/-- Three numbers as they come in. -/
theorem open3 {H : Type} {enc : TypeId × Value → H} {w : World} {base : Nat} {spare : Nat → Bool} {held : Bool} {r : Reach} {b0 : Nat} {v : Value} {d : DataW H} {p : List MemPlace}
    (hv : Value.okWide Tryd.prog w r b0 73 v) (h : DataW.Trod enc Tryd.prog w base spare held 73 v d p) :
    ∃ x0 x1 x2 : Int, v = .agg #[.int .i64 x0, .int .i64 x1, .int .i64 x2] := by
  obtain ⟨cs, rfl, hsz⟩ := okWide_array arr3Under hv
  obtain ⟨fuel, hf⟩ := h
  have h3 : Tryd.prog.cellsOf 73 = 3 := by kernel_rfl
  obtain ⟨l⟩ := cs
  have hl3 : l.length = 3 := by rw [← h3]; simpa using hsz
  obtain ⟨us, m, _, _, _, hul, hel⟩ := DataW.trod_array arr3Under hf
  obtain ⟨c0, c1, c2, rfl⟩ := len3 l hl3
  have el : ∀ i, i < 3 → ∃ z : Int, [c0, c1, c2][i]? = some (.int .i64 z) := by
    intro i hi
    have q := hel i hi
    rw [cellsInt1, List.getElem?_eq_getElem (show i < us.length by omega)] at q
    obtain ⟨z, e, _⟩ := DataW.trod_int Tryd.underlying3 q
    refine ⟨z, ?_⟩
    have := congrArg (fun x : List Value => x[0]?) e
    simp only [List.getElem?_take, List.getElem?_drop] at this
    simpa [Value.cells] using this
  obtain ⟨z0, e0⟩ := el 0 (by omega)
  obtain ⟨z1, e1⟩ := el 1 (by omega)
  obtain ⟨z2, e2⟩ := el 2 (by omega)
  simp at e0 e1 e2
  exact ⟨z0, z1, z2, by rw [e0, e1, e2]⟩

end Go.Proofs.YtnmfeonagigkeaaDoor

