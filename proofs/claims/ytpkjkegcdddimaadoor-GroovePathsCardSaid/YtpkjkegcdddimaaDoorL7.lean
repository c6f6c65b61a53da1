import Derived.Test.YtpkjkegcdddimaaDoorL3
namespace Go.Proofs.YtpkjkegcdddimaaDoor
open Go.ChangeShapes Go.WideShapes Go.ChangeAt Go.RowKit

/-- Rows of a named type as they come in. -/
theorem open_strip {H : Type} {enc : TypeId × Value → H} {w : World} {base : Nat} {spare : Nat → Bool} {held : Bool} {fuel : Nat} {v : Value} {x : DataW H × List MemPlace}
    (hf : DataW.trod enc Tryd.prog w base spare held fuel 56 [v] = some x) : ∃ A n c rows, v = .slice A n c ∧ RdGo w A n rows ∧ n ≤ c := by
  rcases Deep.open_slice1 Tryd.underlying56 cellsIntS hf with ⟨hcs, _⟩ | ⟨a, len, cap, m, k, V, D, Pl, hcs, _, hl, hm, hz, _, hx⟩
  · injection hcs with hcs
    exact ⟨none, 0, 0, [], hcs, ⟨rfl, fun h => absurd h (by omega)⟩, by omega⟩
  · injection hcs with hcs
    have hlen : len ≤ m := by rw [hz]; split <;> omega
    obtain ⟨f, hf⟩ := Deep.choose_lt (α := List Int) (n := len) (p := fun i l => ∃ B m c, w.cell? (a.add i) = some (.slice B m c) ∧ RdI w B m l ∧ (B = none → m = 0 ∧ c = 0)) (fun i hi => by
      obtain ⟨h1, h2⟩ := hx i (by omega)
      obtain ⟨B, m', c', l, hv, h3⟩ := row_of h2
      exact ⟨l, B, m', c', by rw [h1, hv], h3⟩)
    refine ⟨some a, len, cap, (List.range len).map f, hcs, ⟨by simp, fun hn => ⟨a, rfl, ?_, fun j hj => ?_⟩⟩, hl⟩
    · have := block_lt_of_cell (hx 0 (by omega)).1
      rwa [addBlock] at this
    · have e : ((List.range len).map f).getD j [] = f j := by simp [List.getD_eq_getElem?_getD, hj]
      rw [e]
      exact hf j hj
set_option maxRecDepth 100000 in
/-- A task as it comes in. -/
theorem open_task {H : Type} {enc : TypeId × Value → H} {w : World} {base : Nat} {spare : Nat → Bool} {held : Bool} {r : Reach} {b0 : Nat} {v : Value} {d : DataW H} {p : List MemPlace}
    (hv : Value.okWide Tryd.prog w r b0 58 v) (h : DataW.Trod enc Tryd.prog w base spare held 58 v d p) :
    ∃ A n c b rows, v = .agg #[.slice A n c, .int .i64 b] ∧ RdGo w A n rows ∧ n ≤ c := by
  obtain ⟨cs, rfl, hsz⟩ := okWide_struct Tryd.underlying58 hv
  obtain ⟨fuel, hf⟩ := h
  obtain ⟨y0, y1, n, _, hl, h0, h1⟩ := trod_struct2 Tryd.underlying58 hf
  have h2 : Tryd.prog.cellsOf 58 = 2 := by kernel_rfl
  have hS : Tryd.prog.cellsOf 56 = 1 := by kernel_rfl
  obtain ⟨l⟩ := cs
  have hl2 : l.length = 2 := by rw [← h2]; simpa using hsz
  match l, hl2 with
  | [c0, c1], _ =>
    dsimp only at h0 h1
    rw [hS] at h0
    rw [cellsInt1] at h1
    simp [Value.cells] at h0 h1
    obtain ⟨A, n', c, rows, rfl, hr, hc⟩ := open_strip h0
    obtain ⟨z1, e1, _, _⟩ := DataW.trod_int Tryd.underlying3 h1
    simp at e1
    exact ⟨A, n', c, z1, rows, by rw [e1], hr, hc⟩

end Go.Proofs.YtpkjkegcdddimaaDoor
