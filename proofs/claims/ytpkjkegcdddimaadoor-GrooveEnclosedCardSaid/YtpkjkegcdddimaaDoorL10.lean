import Derived.Test.YtpkjkegcdddimaaDoorL8
namespace Go.Proofs.YtpkjkegcdddimaaDoor
open Go.ChangeShapes Go.WideShapes Go.ChangeAt Go.RowKit

/-- Points as they come in, out of their one cell. -/
theorem open_points1 {H : Type} {enc : TypeId × Value → H} {w : World} {base : Nat} {spare : Nat → Bool} {held : Bool} {fuel : Nat} {v : Value} {x : DataW H × List MemPlace}
    (hf : DataW.trod enc Tryd.prog w base spare held fuel 35 [v] = some x) : ∃ A n c ps, v = .slice A n c ∧ RdP w A n ps ∧ n ≤ c ∧ (A = none → n = 0 ∧ c = 0) := by
  rcases Deep.open_slice Tryd.underlying35 hf with ⟨hcs, _⟩ | ⟨a, len, cap, m, k, D, Pl, hcs, _, hl, hm, hz, _, hx⟩
  · injection hcs with hcs
    exact ⟨none, 0, 0, [], hcs, ⟨rfl, fun h => absurd h (by omega)⟩, by omega, fun _ => ⟨rfl, rfl⟩⟩
  · injection hcs with hcs
    have hlen : len ≤ m := by rw [hz]; split <;> omega
    obtain ⟨f, hf⟩ := Deep.choose_lt (α := Int × Int) (n := len) (p := fun i q => w.cell? (a.add (i * 2)) = some (.int .i64 q.1) ∧ w.cell? ((a.add (i * 2)).add 1) = some (.int .i64 q.2)) (fun i hi => by
      obtain ⟨cs, h1, h2⟩ := hx i (by omega)
      obtain ⟨y, z, rfl⟩ := pt_cellsB h2
      rw [cellsPtB] at h1
      obtain ⟨_, _, h3⟩ := World.cells?_some h1
      have h4 := h3 0 (by omega)
      rw [addZ] at h4
      exact ⟨(y, z), h4, h3 1 (by omega)⟩)
    refine ⟨some a, len, cap, (List.range len).map f, hcs, ⟨by simp, fun hn => ⟨a, rfl, ?_, fun j hj => ?_⟩⟩, hl, fun h => by cases h⟩
    · have := block_lt_of_cell (hf 0 (by omega)).1
      rwa [addBlock] at this
    · have e : ((List.range len).map f).getD j (0, 0) = f j := by simp [List.getD_eq_getElem?_getD, hj]
      rw [e]
      exact hf j hj
set_option maxRecDepth 100000 in
/-- A circle as it comes in. -/
theorem open_circle {H : Type} {enc : TypeId × Value → H} {w : World} {base : Nat} {spare : Nat → Bool} {held : Bool} {r : Reach} {b0 : Nat} {v : Value} {d : DataW H} {p : List MemPlace}
    (hv : Value.okWide Tryd.prog w r b0 39 v) (h : DataW.Trod enc Tryd.prog w base spare held 39 v d p) :
    ∃ A n c, ∃ rl rh xl xh yl yh : Int, ∃ ps, v = .agg #[.slice A n c, .int .i64 rl, .int .i64 rh, .int .i64 xl, .int .i64 xh, .int .i64 yl, .int .i64 yh] ∧ RdP w A n ps ∧ n ≤ c ∧ (A = none → n = 0 ∧ c = 0) := by
  obtain ⟨cs, rfl, hsz⟩ := okWide_struct Tryd.underlying39 hv
  obtain ⟨fuel, hf⟩ := h
  obtain ⟨xs, n, _, _, hl, hxl, hg⟩ := DataW.trod_struct Tryd.underlying39 hf
  have h7 : Tryd.prog.cellsOf 39 = 7 := by kernel_rfl
  have hS : Tryd.prog.cellsOf 35 = 1 := by kernel_rfl
  obtain ⟨l⟩ := cs
  have hl7 : l.length = 7 := by rw [← h7]; simpa using hsz
  match l, hl7, xs, hxl with
  | [c0, c1, c2, c3, c4, c5, c6], _, [y0, y1, y2, y3], _ =>
    have g0 := hg 0 _ rfl
    have g1 := hg 1 _ rfl
    have g2 := hg 2 _ rfl
    have g3 := hg 3 _ rfl
    simp [Value.cells, hS] at g0
    simp [Value.cells, hS, cellsRng] at g1
    simp [Value.cells, hS, cellsRng] at g2
    simp [Value.cells, hS, cellsRng] at g3
    obtain ⟨A, n', c, ps, rfl, hr, hc, hA⟩ := open_points1 g0
    obtain ⟨rl, rh, e1⟩ := rng_cells g1
    obtain ⟨xl, xh, e2⟩ := rng_cells g2
    obtain ⟨yl, yh, e3⟩ := rng_cells g3
    simp at e1 e2 e3
    exact ⟨A, n', c, rl, rh, xl, xh, yl, yh, ps, by rw [e1.1, e1.2, e2.1, e2.2, e3.1, e3.2], hr, hc, hA⟩
set_option maxRecDepth 100000 in
/-- A point as it comes in. -/
theorem open_pt {H : Type} {enc : TypeId × Value → H} {w : World} {base : Nat} {spare : Nat → Bool} {held : Bool} {r : Reach} {b0 : Nat} {v : Value} {d : DataW H} {p : List MemPlace}
    (hv : Value.okWide Tryd.prog w r b0 30 v) (h : DataW.Trod enc Tryd.prog w base spare held 30 v d p) :
    ∃ a b : Int, v = .agg #[.int .i64 a, .int .i64 b] := by
  obtain ⟨cs, rfl, hsz⟩ := okWide_struct Tryd.underlying30 hv
  obtain ⟨fuel, hf⟩ := h
  obtain ⟨a, b, e⟩ := pt_cellsB hf
  exact ⟨a, b, by obtain ⟨l⟩ := cs; simp [Value.cells] at e; rw [e]⟩

end Go.Proofs.YtpkjkegcdddimaaDoor
