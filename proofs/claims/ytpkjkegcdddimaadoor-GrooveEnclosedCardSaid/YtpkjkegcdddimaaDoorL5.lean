import Derived.Test.YtpkjkegcdddimaaDoorL2
import Derived.Test.YtpkjkegcdddimaaDoorS0
namespace Go.Proofs.YtpkjkegcdddimaaDoor
open Go.ChangeShapes Go.WideShapes Go.ChangeAt Go.RowKit
theorem cellsRng : Tryd.prog.cellsOf 37 = 2 := by kernel_rfl
section
variable {H : Type} {enc : TypeId × Value → H} {w : World} {base : Nat} {spare : Nat → Bool} {held : Bool} {fuel : Nat} {cs : List Value} {x : DataW H × List MemPlace}
theorem rng_cells (h : DataW.trod enc Tryd.prog w base spare held fuel 37 cs = some x) : ∃ a b, cs = [.int .i64 a, .int .i64 b] := by
  obtain ⟨y0, y1, n, rfl, hl, h0, h1⟩ := trod_struct2 Tryd.underlying37 h
  rw [cellsRng] at hl
  dsimp only at h0 h1
  rw [cellsInt1] at h0 h1
  obtain ⟨n0, e0, _, _⟩ := DataW.trod_int Tryd.underlying3 h0
  obtain ⟨n1, e1, _, _⟩ := DataW.trod_int Tryd.underlying3 h1
  match cs, hl with
  | [c0, c1], _ =>
    simp at e0 e1
    exact ⟨n0, n1, by rw [e0, e1]⟩

end
/-- Pairs as they come in. -/
theorem open_ranges {H : Type} {enc : TypeId × Value → H} {w : World} {base : Nat} {spare : Nat → Bool} {held : Bool} {A : Option Addr} {n c : Nat} {d : DataW H} {p : List MemPlace}
    (h : DataW.Trod enc Tryd.prog w base spare held 74 (.slice A n c) d p) : ∃ ps, RdP w A n ps ∧ n ≤ c ∧ (A = none → n = 0 ∧ c = 0) := by
  obtain ⟨fuel, hf⟩ := h
  rcases Deep.open_slice Tryd.underlying74 hf with ⟨hcs, _⟩ | ⟨a, len, cap, m, k, D, Pl, hcs, _, hl, hm, hz, _, hx⟩
  · simp [Value.cells] at hcs
    obtain ⟨rfl, rfl, rfl⟩ := hcs
    exact ⟨[], ⟨rfl, fun h => absurd h (by omega)⟩, by omega, fun _ => ⟨rfl, rfl⟩⟩
  · simp [Value.cells] at hcs
    obtain ⟨rfl, rfl, rfl⟩ := hcs
    have hlen : n ≤ m := by rw [hz]; split <;> omega
    obtain ⟨f, hf⟩ := Deep.choose_lt (α := Int × Int) (n := n) (p := fun i q => w.cell? (a.add (i * 2)) = some (.int .i64 q.1) ∧ w.cell? ((a.add (i * 2)).add 1) = some (.int .i64 q.2)) (fun i hi => by
      obtain ⟨cs, h1, h2⟩ := hx i (by omega)
      obtain ⟨y, z, rfl⟩ := rng_cells h2
      rw [cellsRng] at h1
      obtain ⟨_, _, h3⟩ := World.cells?_some h1
      have h4 := h3 0 (by omega)
      rw [addZ] at h4
      exact ⟨(y, z), h4, h3 1 (by omega)⟩)
    refine ⟨(List.range n).map f, ⟨by simp, fun hn => ⟨a, rfl, ?_, fun j hj => ?_⟩⟩, hl, fun h => by cases h⟩
    · have := block_lt_of_cell (hf 0 (by omega)).1
      rwa [addBlock] at this
    · have e : ((List.range n).map f).getD j (0, 0) = f j := by simp [List.getD_eq_getElem?_getD, hj]
      rw [e]
      exact hf j hj


end Go.Proofs.YtpkjkegcdddimaaDoor
