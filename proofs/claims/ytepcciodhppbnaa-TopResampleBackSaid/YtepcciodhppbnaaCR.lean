import Derived.Test.YtepcciodhppbnaaCO
import Derived.Test.YtepcciodhppbnaaS1
import Derived.Deep.Slices
namespace Go.Proofs.Ytepcciodhppbnaa.op
open Go.ChangeShapes Go.WideShapes Go.ChangeAt Go.RowKit

theorem cellsNod : Try.prog.cellsOf 69 = 2 := by kernel_rfl
theorem cellsMap : Try.prog.cellsOf 24 = 1 := by kernel_rfl
theorem cellsNods : Try.prog.cellsOf 22 = 1 := by kernel_rfl
theorem addZ (a : Addr) : a.add 0 = a := rfl
section
variable {H : Type} {enc : TypeId × Value → H} {w : World} {base : Nat} {spare : Nat → Bool} {held : Bool} {fuel : Nat} {cs : List Value} {x : DataW H × List MemPlace}
theorem nod_cells (h : DataW.trod enc Try.prog w base spare held fuel 69 cs = some x) : ∃ a b, cs = [.int .i64 a, .int .i64 b] := by
  obtain ⟨y0, y1, n, rfl, hl, h0, h1⟩ := trod_struct2 Try.underlying69 h
  rw [cellsNod] at hl
  dsimp only at h0 h1
  rw [cellsInt1] at h0 h1
  obtain ⟨n0, e0, _, _⟩ := DataW.trod_int Try.underlying3 h0
  obtain ⟨n1, e1, _, _⟩ := DataW.trod_int Try.underlying3 h1
  match cs, hl with
  | [c0, c1], _ =>
    simp at e0 e1
    exact ⟨n0, n1, by rw [e0, e1]⟩
/-- Nodes of a field as they come in. -/
theorem open_nodf {v : Value} (hf : DataW.trod enc Try.prog w base spare held fuel 22 [v] = some x) : ∃ A n c ps, v = .slice A n c ∧ RdP w A n ps ∧ n ≤ c ∧ c ≤ 9223372036854775807 ∧ (A = none → n = 0 ∧ c = 0) := by
  rcases Deep.open_slice Try.underlying22 hf with ⟨hcs, _⟩ | ⟨a, len, cap, m, k, D, Pl, hcs, _, hl, hm, hz, _, hx⟩
  · injection hcs with hcs
    exact ⟨none, 0, 0, [], hcs, ⟨rfl, fun h => absurd h (by omega)⟩, by omega, by omega, fun _ => ⟨rfl, rfl⟩⟩
  · injection hcs with hcs
    have hlen : len ≤ m := by rw [hz]; split <;> omega
    obtain ⟨f, hf⟩ := Deep.choose_lt (α := Int × Int) (n := len) (p := fun i q => w.cell? (a.add (i * 2)) = some (.int .i64 q.1) ∧ w.cell? ((a.add (i * 2)).add 1) = some (.int .i64 q.2)) (fun i hi => by
      obtain ⟨cs, h1, h2⟩ := hx i (by omega)
      obtain ⟨y, z, rfl⟩ := nod_cells h2
      rw [cellsNod] at h1
      obtain ⟨_, _, h3⟩ := World.cells?_some h1
      have h4 := h3 0 (by omega)
      rw [addZ] at h4
      exact ⟨(y, z), h4, h3 1 (by omega)⟩)
    refine ⟨some a, len, cap, (List.range len).map f, hcs, ⟨by simp, fun hn => ⟨a, rfl, ?_, fun j hj => ?_⟩⟩, hl, by unfold maxLen at hm; omega, fun h => by cases h⟩
    · have := lt_of_cell (hf 0 (by omega)).1
      rwa [addBlock] at this
    · have e : ((List.range len).map f).getD j (0, 0) = f j := by simp [List.getD_eq_getElem?_getD, hj]
      rw [e]
      exact hf j hj
theorem open_mapf {v : Value} (hf : DataW.trod enc Try.prog w base spare held fuel 24 [v] = some x) : ∃ A n c ps, v = .slice A n c ∧ RdP w A n ps ∧ n ≤ c ∧ c ≤ 9223372036854775807 ∧ (A = none → n = 0 ∧ c = 0) := by
  obtain ⟨xs, n, _, _, hl, hxl, hg⟩ := DataW.trod_struct Try.underlying24 hf
  match xs, hxl with
  | [y0], _ =>
    have g0 := hg 0 _ rfl
    simp [cellsNods] at g0
    exact open_nodf g0
end
set_option maxRecDepth 100000 in
/-- Rules as they come in. -/
theorem open_rules {H : Type} {enc : TypeId × Value → H} {w : World} {base : Nat} {spare : Nat → Bool} {held : Bool} {r : Reach} {b0 : Nat} {v : Value} {d : DataW H} {p : List MemPlace}
    (hv : Value.okWide Try.prog w r b0 26 v) (h : DataW.Trod enc Try.prog w base spare held 26 v d p) :
    ∃ (k dd n q s : Int) (A : Option Addr) (m c : Nat) (ps : List (Int × Int)), v = .agg #[.int .i64 k, .int .i64 dd, .int .i64 n, .int .i64 q, .int .i64 s, .slice A m c] ∧ RdP w A m ps ∧ m ≤ c ∧ c ≤ 9223372036854775807 ∧ (A = none → m = 0 ∧ c = 0) := by
  obtain ⟨cs, rfl, hsz⟩ := okWide_struct Try.underlying26 hv
  obtain ⟨fuel, hf⟩ := h
  obtain ⟨xs, n, _, _, hl, hxl, hg⟩ := DataW.trod_struct Try.underlying26 hf
  have h6 : Try.prog.cellsOf 26 = 6 := by kernel_rfl
  obtain ⟨l⟩ := cs
  have hl6 : l.length = 6 := by rw [← h6]; simpa using hsz
  match l, hl6, xs, hxl with
  | [c0, c1, c2, c3, c4, c5], _, [y0, y1, y2, y3, y4, y5], _ =>
    have g0 := hg 0 _ rfl
    have g1 := hg 1 _ rfl
    have g2 := hg 2 _ rfl
    have g3 := hg 3 _ rfl
    have g4 := hg 4 _ rfl
    have g5 := hg 5 _ rfl
    simp [Value.cells, cellsI, cellsMap] at g0 g1 g2 g3 g4 g5
    obtain ⟨z0, e0, _, _⟩ := DataW.trod_int Try.underlying3 g0
    obtain ⟨z1, e1, _, _⟩ := DataW.trod_int Try.underlying3 g1
    obtain ⟨z2, e2, _, _⟩ := DataW.trod_int Try.underlying3 g2
    obtain ⟨z3, e3, _, _⟩ := DataW.trod_int Try.underlying3 g3
    obtain ⟨z4, e4, _, _⟩ := DataW.trod_int Try.underlying3 g4
    obtain ⟨A, n', c, ps, e5, hr, h3, h4, h5⟩ := open_mapf g5
    simp at e0 e1 e2 e3 e4
    exact ⟨z0, z1, z2, z3, z4, A, n', c, ps, by rw [e0, e1, e2, e3, e4, e5], hr, h3, h4, h5⟩
set_option maxRecDepth 100000 in
/-- A tape as it comes in. -/
theorem open_tape {H : Type} {enc : TypeId × Value → H} {w : World} {base : Nat} {spare : Nat → Bool} {held : Bool} {r : Reach} {b0 : Nat} {v : Value} {d : DataW H} {p : List MemPlace}
    (hv : Value.okWide Try.prog w r b0 66 v) (h : DataW.Trod enc Try.prog w base spare held 66 v d p) :
    ∃ (A : Option Addr) (m c : Nat) (ps : List (Int × Int)) (s st q : Int), v = .agg #[.slice A m c, .int .i64 s, .int .i64 st, .int .i64 q] ∧ RdP w A m ps ∧ m ≤ c ∧ c ≤ 9223372036854775807 ∧ (A = none → m = 0 ∧ c = 0) := by
  obtain ⟨cs, rfl, hsz⟩ := okWide_struct Try.underlying66 hv
  obtain ⟨fuel, hf⟩ := h
  obtain ⟨xs, n, _, _, hl, hxl, hg⟩ := DataW.trod_struct Try.underlying66 hf
  have h4 : Try.prog.cellsOf 66 = 4 := by kernel_rfl
  obtain ⟨l⟩ := cs
  have hl4 : l.length = 4 := by rw [← h4]; simpa using hsz
  match l, hl4, xs, hxl with
  | [c0, c1, c2, c3], _, [y0, y1, y2, y3], _ =>
    have g0 := hg 0 _ rfl
    have g1 := hg 1 _ rfl
    have g2 := hg 2 _ rfl
    have g3 := hg 3 _ rfl
    simp [Value.cells, cellsI, cellsMap] at g0 g1 g2 g3
    obtain ⟨A, n', c, ps, e0, hr, h3, h4, h5⟩ := open_mapf g0
    obtain ⟨z1, e1, _, _⟩ := DataW.trod_int Try.underlying3 g1
    obtain ⟨z2, e2, _, _⟩ := DataW.trod_int Try.underlying3 g2
    obtain ⟨z3, e3, _, _⟩ := DataW.trod_int Try.underlying3 g3
    simp at e1 e2 e3
    exact ⟨A, n', c, ps, z1, z2, z3, by rw [e0, e1, e2, e3], hr, h3, h4, h5⟩
end Go.Proofs.Ytepcciodhppbnaa.op
