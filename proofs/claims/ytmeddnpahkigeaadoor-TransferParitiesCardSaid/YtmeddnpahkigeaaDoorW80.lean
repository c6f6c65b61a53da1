import Derived.Test.YtmeddnpahkigeaaDoorW63
import Derived.Deep.Slices
namespace Go.Proofs.YtmeddnpahkigeaaDoor
open Go.ChangeShapes Go.WideShapes Go.ChangeAt Go.RowKit

set_option maxRecDepth 100000 in
theorem start_cells {H : Type} {enc : TypeId × Value → H} {w : World} {base : Nat} {spare : Nat → Bool} {held : Bool} {fuel : Nat} {cs : List Value} {x : DataW H × List MemPlace} (hsz : cs.length = 2)
    (hf : DataW.trod enc Tryd.prog w base spare held fuel 24 cs = some x) : ∃ y z : Int, cs = [.int .i64 y, .int .i64 z] := by
  obtain ⟨xs, n, _, _, hl, hxl, hg⟩ := DataW.trod_struct Tryd.underlying24 hf
  match cs, hsz, xs, hxl with
  | [c0, c1], _, [y0, y1], _ =>
    have g0 := hg 0 _ rfl
    have g1 := hg 1 _ rfl
    simp [cellsInt] at g0
    simp [cellsInt] at g1
    obtain ⟨z0, e0, _⟩ := DataW.trod_int Tryd.underlying3 g0
    obtain ⟨z1, e1, _⟩ := DataW.trod_int Tryd.underlying3 g1
    simp at e0 e1
    exact ⟨z0, z1, by rw [e0, e1]⟩

set_option maxRecDepth 100000 in
/-- A start as it comes in. -/
theorem open_start {H : Type} {enc : TypeId × Value → H} {w : World} {base : Nat} {spare : Nat → Bool} {held : Bool} {r : Reach} {b0 : Nat} {v : Value} {d : DataW H} {p : List MemPlace}
    (hv : Value.okWide Tryd.prog w r b0 24 v) (h : DataW.Trod enc Tryd.prog w base spare held 24 v d p) :
    ∃ a b : Int, v = .agg #[.int .i64 a, .int .i64 b] := by
  obtain ⟨cs, rfl, hsz⟩ := okWide_struct Tryd.underlying24 hv
  obtain ⟨fuel, hf⟩ := h
  have h2 : Tryd.prog.cellsOf 24 = 2 := by kernel_rfl
  obtain ⟨l⟩ := cs
  obtain ⟨a, b, e⟩ := start_cells (cs := l) (by rw [← h2]; simpa using hsz) (by simpa [Value.cells] using hf)
  exact ⟨a, b, by rw [e]⟩

end Go.Proofs.YtmeddnpahkigeaaDoor
