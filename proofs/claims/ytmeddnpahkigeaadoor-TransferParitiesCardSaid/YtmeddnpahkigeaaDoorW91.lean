import Derived.Test.YtmeddnpahkigeaaDoorW80
import Derived.Test.YtmeddnpahkigeaaDoorW82
namespace Go.Proofs.YtmeddnpahkigeaaDoor
open Go.ChangeShapes Go.WideShapes Go.ChangeAt Go.RowKit

set_option maxRecDepth 100000 in
theorem arr8_cells {H : Type} {enc : TypeId × Value → H} {w : World} {base : Nat} {spare : Nat → Bool} {held : Bool} {fuel : Nat} {cs : List Value} {x : DataW H × List MemPlace}
    (hf : DataW.trod enc Tryd.prog w base spare held fuel 65 cs = some x) : ∃ l : List Int, l.length = 8 ∧ cs = l.map (Value.int .i64) := by
  obtain ⟨us, m, _, _, hl0, hul, hel⟩ := DataW.trod_array arrUnder hf
  have h8 : Tryd.prog.cellsOf 65 = 8 := by kernel_rfl
  have hl8 : cs.length = 8 := by rw [hl0, h8]
  have el : ∀ i, i < 8 → ∃ z : Int, cs[i]? = some (.int .i64 z) := by
    intro i hi
    have q := hel i hi
    rw [cellsInt, List.getElem?_eq_getElem (show i < us.length by omega)] at q
    obtain ⟨z, e, _⟩ := DataW.trod_int Tryd.underlying3 q
    refine ⟨z, ?_⟩
    have := congrArg (fun x : List Value => x[0]?) e
    simp only [List.getElem?_take, List.getElem?_drop] at this
    simpa [Value.cells] using this
  obtain ⟨f, hf2⟩ := Deep.choose_lt (α := Int) (n := 8) (p := fun i z => cs[i]? = some (.int .i64 z)) el
  refine ⟨(List.range 8).map f, by simp, ?_⟩
  apply List.ext_getElem? 
  intro i
  by_cases hi : i < 8
  · rw [hf2 i hi]; simp [hi]
  · rw [List.getElem?_eq_none (by omega), List.getElem?_eq_none (by simp; omega)]

set_option maxRecDepth 100000 in
/-- Blocks of eight as they come in. -/
theorem open_datas {H : Type} {enc : TypeId × Value → H} {w : World} {base : Nat} {spare : Nat → Bool} {held : Bool} {A : Option Addr} {n c : Nat} {d : DataW H} {p : List MemPlace}
    (h : DataW.Trod enc Tryd.prog w base spare held 35 (.slice A n c) d p) : ∃ ds, RdD w A n ds ∧ (A = none → n = 0 ∧ c = 0) := by
  obtain ⟨fuel, hf⟩ := h
  have h8 : Tryd.prog.cellsOf 65 = 8 := by kernel_rfl
  rcases Deep.open_slice Tryd.underlying35 hf with ⟨hcs, _⟩ | ⟨a, len, cap, m, k, D, Pl, hcs, _, hl, hm, hz, _, hx⟩
  · simp [Value.cells] at hcs
    obtain ⟨rfl, rfl, rfl⟩ := hcs
    exact ⟨[], ⟨rfl, fun i hi => by simp at hi, fun h => absurd h (by omega)⟩, fun _ => ⟨rfl, rfl⟩⟩
  · simp [Value.cells] at hcs
    obtain ⟨rfl, rfl, rfl⟩ := hcs
    have hlen : n ≤ m := by rw [hz]; split <;> omega
    obtain ⟨f, hf⟩ := Deep.choose_lt (α := List Int) (n := n) (p := fun i q => q.length = 8 ∧ ∀ j, j < 8 → w.cell? ((a.add (i * 8)).add j) = some (.int .i64 (q.getD j 0))) (fun i hi => by
      obtain ⟨cs, h1, h2⟩ := hx i (by omega)
      obtain ⟨l, hl8, rfl⟩ := arr8_cells h2
      rw [h8] at h1
      obtain ⟨_, _, h3⟩ := World.cells?_some h1
      refine ⟨l, hl8, fun j hj => ?_⟩
      have h4 := h3 j (by simpa [hl8] using hj)
      rw [h4]
      simp [List.getD_eq_getElem?_getD, List.getElem?_eq_getElem (show j < l.length by omega)])
    have e : ∀ j, j < n → ((List.range n).map f).getD j [] = f j := fun j hj => by simp [List.getD_eq_getElem?_getD, hj]
    refine ⟨(List.range n).map f, ⟨by simp, fun i hi => ?_, fun hn => ⟨a, rfl, ?_, fun i j hi hj => ?_⟩⟩, fun h => by cases h⟩
    · have hi' : i < n := by simpa using hi
      rw [e i hi']; exact (hf i hi').1
    · have := block_lt_of_cell ((hf 0 (by omega)).2 0 (by omega))
      rwa [addBlock, addBlock] at this
    · unfold dc
      rw [e i hi]
      exact (hf i hi).2 j hj

end Go.Proofs.YtmeddnpahkigeaaDoor
