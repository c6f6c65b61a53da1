import Derived.Test.YtmeddnpahkigeaaDoorW26
namespace Go.Proofs.YtmeddnpahkigeaaDoor
open Go.ChangeShapes Go.WideShapes Go.ChangeAt Go.RowKit

theorem okWide_array {P : Program} {w : World} {r : Reach} {base : Nat} {t : TypeId} {v : Value} {n : Nat} {e : TypeId} (ht : P.underlying t = some (.array n e)) (h : Value.okWide P w r base t v) : ∃ cs, v = .agg cs ∧ cs.size = P.cellsOf t := by
  simp only [Value.okWide, ht] at h
  obtain ⟨cs, h1, h2, _⟩ := h
  exact ⟨cs, h1, h2⟩

theorem len8 {α : Type} (l : List α) (h : l.length = 8) : ∃ c0 c1 c2 c3 c4 c5 c6 c7, l = [c0, c1, c2, c3, c4, c5, c6, c7] := by
  obtain ⟨c0, l0, rfl, h0⟩ := len_cons l 7 h
  obtain ⟨c1, l1, rfl, h1⟩ := len_cons l0 6 h0
  obtain ⟨c2, l2, rfl, h2⟩ := len_cons l1 5 h1
  obtain ⟨c3, l3, rfl, h3⟩ := len_cons l2 4 h2
  obtain ⟨c4, l4, rfl, h4⟩ := len_cons l3 3 h3
  obtain ⟨c5, l5, rfl, h5⟩ := len_cons l4 2 h4
  obtain ⟨c6, l6, rfl, h6⟩ := len_cons l5 1 h5
  obtain ⟨c7, l7, rfl, h7⟩ := len_cons l6 0 h6
  obtain rfl := List.eq_nil_of_length_eq_zero h7
  exact ⟨c0, c1, c2, c3, c4, c5, c6, c7, rfl⟩

set_option maxRecDepth 100000 in
/-- Eight samples as they come in. -/
theorem open8 {H : Type} {enc : TypeId × Value → H} {w : World} {base : Nat} {spare : Nat → Bool} {held : Bool} {r : Reach} {b0 : Nat} {v : Value} {d : DataW H} {p : List MemPlace}
    (hv : Value.okWide Tryd.prog w r b0 65 v) (h : DataW.Trod enc Tryd.prog w base spare held 65 v d p) :
    ∃ x0 x1 x2 x3 x4 x5 x6 x7 : Int, v = .agg #[.int .i64 x0, .int .i64 x1, .int .i64 x2, .int .i64 x3, .int .i64 x4, .int .i64 x5, .int .i64 x6, .int .i64 x7] := by
  obtain ⟨cs, rfl, hsz⟩ := okWide_array arrUnder hv
  obtain ⟨fuel, hf⟩ := h
  have h8 : Tryd.prog.cellsOf 65 = 8 := by kernel_rfl
  obtain ⟨l⟩ := cs
  have hl8 : l.length = 8 := by rw [← h8]; simpa using hsz
  obtain ⟨us, m, _, _, _, hul, hel⟩ := DataW.trod_array arrUnder hf
  obtain ⟨c0, c1, c2, c3, c4, c5, c6, c7, rfl⟩ := len8 l hl8
  have el : ∀ i, i < 8 → ∃ z : Int, [c0, c1, c2, c3, c4, c5, c6, c7][i]? = some (.int .i64 z) := by
    intro i hi
    have q := hel i hi
    rw [cellsInt, List.getElem?_eq_getElem (show i < us.length by omega)] at q
    obtain ⟨z, e, _⟩ := DataW.trod_int Tryd.underlying3 q
    refine ⟨z, ?_⟩
    have := congrArg (fun x : List Value => x[0]?) e
    simp only [List.getElem?_take, List.getElem?_drop] at this
    simpa [Value.cells] using this
  obtain ⟨z0, e0⟩ := el 0 (by omega)
  obtain ⟨z1, e1⟩ := el 1 (by omega)
  obtain ⟨z2, e2⟩ := el 2 (by omega)
  obtain ⟨z3, e3⟩ := el 3 (by omega)
  obtain ⟨z4, e4⟩ := el 4 (by omega)
  obtain ⟨z5, e5⟩ := el 5 (by omega)
  obtain ⟨z6, e6⟩ := el 6 (by omega)
  obtain ⟨z7, e7⟩ := el 7 (by omega)
  simp at e0 e1 e2 e3 e4 e5 e6 e7
  exact ⟨z0, z1, z2, z3, z4, z5, z6, z7, by rw [e0, e1, e2, e3, e4, e5, e6, e7]⟩

end Go.Proofs.YtmeddnpahkigeaaDoor
