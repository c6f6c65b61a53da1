import Derived.Test.YtpkjkegcdddimaaDoorL2
import Derived.Test.YtpkjkegcdddimaaDoorT0
namespace Go.Proofs.YtpkjkegcdddimaaDoor
open Go.ChangeShapes Go.WideShapes Go.ChangeAt Go.RowKit

theorem cellsIntS : Tryd.prog.cellsOf 28 = 1 := by kernel_rfl
theorem row_of {H : Type} {enc : TypeId × Value → H} {w : World} {base : Nat} {spare : Nat → Bool} {held : Bool} {v : Value} {fuel : Nat} {x : DataW H × List MemPlace}
    (h : DataW.trod enc Tryd.prog w base spare held fuel 28 [v] = some x) : ∃ B m c l, v = .slice B m c ∧ RdI w B m l ∧ (B = none → m = 0 ∧ c = 0) := by
  rcases open_ints Tryd.underlying28 Tryd.underlying3 cellsInt1 h with ⟨hcs, _⟩ | ⟨a, len, cap, zs, hcs, _, hl, hm, hz, _, hcell, _⟩
  · injection hcs with hcs
    exact ⟨none, 0, 0, [], hcs, ⟨rfl, fun h => absurd h (by omega)⟩, fun _ => ⟨rfl, rfl⟩⟩
  · injection hcs with hcs
    have hlen : len ≤ zs.length := by rw [hz]; split <;> omega
    refine ⟨some a, len, cap, zs.take len, hcs, ⟨by rw [List.length_take]; omega, fun hn => ⟨a, rfl, ?_, fun j hj => ?_⟩⟩, fun h => by cases h⟩
    · have := block_lt_of_cell (hcell 0 (by omega))
      rwa [addBlock] at this
    · rw [hcell j (by omega)]
      simp [List.getD_eq_getElem?_getD, List.getElem?_take, hj]

/-- Lists of numbers as they come in. -/
theorem open_rows {H : Type} {enc : TypeId × Value → H} {w : World} {base : Nat} {spare : Nat → Bool} {held : Bool} {A : Option Addr} {n c : Nat} {d : DataW H} {p : List MemPlace}
    (h : DataW.Trod enc Tryd.prog w base spare held 22 (.slice A n c) d p) : ∃ rows, RdGo w A n rows ∧ n ≤ c := by
  obtain ⟨fuel, hf⟩ := h
  rcases Deep.open_slice1 Tryd.underlying22 cellsIntS hf with ⟨hcs, _⟩ | ⟨a, len, cap, m, k, V, D, Pl, hcs, _, hl, hm, hz, _, hx⟩
  · simp [Value.cells] at hcs
    obtain ⟨rfl, rfl, rfl⟩ := hcs
    exact ⟨[], ⟨rfl, fun h => absurd h (by omega)⟩, by omega⟩
  · simp [Value.cells] at hcs
    obtain ⟨rfl, rfl, rfl⟩ := hcs
    have hlen : n ≤ m := by rw [hz]; split <;> omega
    obtain ⟨f, hf⟩ := Deep.choose_lt (α := List Int) (n := n) (p := fun i l => ∃ B m c, w.cell? (a.add i) = some (.slice B m c) ∧ RdI w B m l ∧ (B = none → m = 0 ∧ c = 0)) (fun i hi => by
      obtain ⟨h1, h2⟩ := hx i (by omega)
      obtain ⟨B, m', c', l, hv, h3⟩ := row_of h2
      exact ⟨l, B, m', c', by rw [h1, hv], h3⟩)
    refine ⟨(List.range n).map f, ⟨by simp, fun hn => ⟨a, rfl, ?_, fun j hj => ?_⟩⟩, hl⟩
    · have := block_lt_of_cell (hx 0 (by omega)).1
      rwa [addBlock] at this
    · have e : ((List.range n).map f).getD j [] = f j := by simp [List.getD_eq_getElem?_getD, hj]
      rw [e]
      exact hf j hj

end Go.Proofs.YtpkjkegcdddimaaDoor
