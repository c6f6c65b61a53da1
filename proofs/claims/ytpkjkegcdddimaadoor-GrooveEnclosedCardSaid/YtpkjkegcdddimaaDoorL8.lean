import Derived.Test.YtpkjkegcdddimaaDoorL3
import Derived.Test.YtpkjkegcdddimaaDoorL5
namespace Go.Proofs.YtpkjkegcdddimaaDoor
open Go.ChangeShapes Go.WideShapes Go.ChangeAt Go.RowKit

/-- Rows as they come in, out of their one cell. -/
theorem open_rows1 {H : Type} {enc : TypeId × Value → H} {w : World} {base : Nat} {spare : Nat → Bool} {held : Bool} {fuel : Nat} {v : Value} {x : DataW H × List MemPlace}
    (hf : DataW.trod enc Tryd.prog w base spare held fuel 22 [v] = some x) : ∃ A n c rows, v = .slice A n c ∧ RdGo w A n rows ∧ n ≤ c := by
  rcases Deep.open_slice1 Tryd.underlying22 cellsIntS hf with ⟨hcs, _⟩ | ⟨a, len, cap, m, k, V, D, Pl, hcs, _, hl, hm, hz, _, hx⟩
  · injection hcs with hcs
    exact ⟨none, 0, 0, [], hcs, ⟨rfl, fun h => absurd h (by omega)⟩, by omega⟩
  · injection hcs with hcs
    have hlen : len ≤ m := by rw [hz]; split <;> omega
    obtain ⟨f, hf⟩ := Deep.choose_lt (α := List Int) (n := len) (p := fun i l => ∃ B m c, w.cell? (a.add i) = some (.slice B m c) ∧ RdI w B m l ∧ (B = none → m = 0 ∧ c = 0)) (fun i hi => by
      obtain ⟨h1, h2⟩ := hx i (by omega)
      obtain ⟨B, m', c', l, hv, h3⟩ := row_of h2
      exact ⟨l, B, m', c', by rw [h1, hv], h3⟩)
    refine ⟨some a, len, cap, (List.range len).map f, hcs, ⟨by simp, fun hn => ⟨a, rfl, ?_, fun j hj => ?_⟩⟩, hl⟩
    · have := block_lt_of_cell (hx 0 (by omega)).1
      rwa [addBlock] at this
    · have e : ((List.range len).map f).getD j [] = f j := by simp [List.getD_eq_getElem?_getD, hj]
      rw [e]
      exact hf j hj
set_option maxRecDepth 100000 in
/-- An image as it comes in. -/
theorem open_image {H : Type} {enc : TypeId × Value → H} {w : World} {base : Nat} {spare : Nat → Bool} {held : Bool} {r : Reach} {b0 : Nat} {v : Value} {d : DataW H} {p : List MemPlace}
    (hv : Value.okWide Tryd.prog w r b0 24 v) (h : DataW.Trod enc Tryd.prog w base spare held 24 v d p) :
    ∃ A n c rows, v = .agg #[.slice A n c] ∧ RdGo w A n rows ∧ n ≤ c := by
  obtain ⟨cs, rfl, hsz⟩ := okWide_struct Tryd.underlying24 hv
  obtain ⟨fuel, hf⟩ := h
  obtain ⟨xs, n, _, _, hl, hxl, hg⟩ := DataW.trod_struct Tryd.underlying24 hf
  have h1 : Tryd.prog.cellsOf 24 = 1 := by kernel_rfl
  have hS : Tryd.prog.cellsOf 22 = 1 := by kernel_rfl
  obtain ⟨l⟩ := cs
  have hl1 : l.length = 1 := by rw [← h1]; simpa using hsz
  match l, hl1, xs, hxl with
  | [c0], _, [y0], _ =>
    have g0 := hg 0 _ rfl
    simp [Value.cells, hS] at g0
    obtain ⟨A, n', c, rows, rfl, hr, hc⟩ := open_rows1 g0
    exact ⟨A, n', c, rows, rfl, hr, hc⟩
theorem cellsPtB : Tryd.prog.cellsOf 30 = 2 := by kernel_rfl
section
variable {H : Type} {enc : TypeId × Value → H} {w : World} {base : Nat} {spare : Nat → Bool} {held : Bool} {fuel : Nat} {cs : List Value} {x : DataW H × List MemPlace}
theorem pt_cellsB (h : DataW.trod enc Tryd.prog w base spare held fuel 30 cs = some x) : ∃ a b, cs = [.int .i64 a, .int .i64 b] := by
  obtain ⟨y0, y1, n, rfl, hl, h0, h1⟩ := trod_struct2 Tryd.underlying30 h
  rw [cellsPtB] at hl
  dsimp only at h0 h1
  rw [cellsInt1] at h0 h1
  obtain ⟨n0, e0, _, _⟩ := DataW.trod_int Tryd.underlying3 h0
  obtain ⟨n1, e1, _, _⟩ := DataW.trod_int Tryd.underlying3 h1
  match cs, hl with
  | [c0, c1], _ =>
    simp at e0 e1
    exact ⟨n0, n1, by rw [e0, e1]⟩
end
end Go.Proofs.YtpkjkegcdddimaaDoor
