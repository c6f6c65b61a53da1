import Derived.Test.YtkemoffagdilgaaGreatDoorW24
namespace Go.Proofs.YtkemoffagdilgaaGreatDoor
open Go.ChangeShapes Go.WideShapes Go.ChangeAt Go.RowKit

theorem len_cons {α : Type} (l : List α) (n : Nat) (h : l.length = n + 1) : ∃ a r, l = a :: r ∧ r.length = n := by
  cases l with
  | nil => simp at h
  | cons a r => exact ⟨a, r, rfl, by simpa using h⟩
theorem len4 {α : Type} (l : List α) (h : l.length = 4) : ∃ a b c d, l = [a, b, c, d] := by
  obtain ⟨a, l0, rfl, h0⟩ := len_cons l 3 h
  obtain ⟨b, l1, rfl, h1⟩ := len_cons l0 2 h0
  obtain ⟨c, l2, rfl, h2⟩ := len_cons l1 1 h1
  obtain ⟨d, l3, rfl, h3⟩ := len_cons l2 0 h2
  obtain rfl := List.eq_nil_of_length_eq_zero h3
  exact ⟨a, b, c, d, rfl⟩
theorem len11 {α : Type} (l : List α) (h : l.length = 11) : ∃ c0 c1 c2 c3 c4 c5 c6 c7 c8 c9 c10, l = [c0, c1, c2, c3, c4, c5, c6, c7, c8, c9, c10] := by
  obtain ⟨c0, l0, rfl, h0⟩ := len_cons l 10 h
  obtain ⟨c1, l1, rfl, h1⟩ := len_cons l0 9 h0
  obtain ⟨c2, l2, rfl, h2⟩ := len_cons l1 8 h1
  obtain ⟨c3, l3, rfl, h3⟩ := len_cons l2 7 h2
  obtain ⟨c4, l4, rfl, h4⟩ := len_cons l3 6 h3
  obtain ⟨c5, l5, rfl, h5⟩ := len_cons l4 5 h4
  obtain ⟨c6, l6, rfl, h6⟩ := len_cons l5 4 h5
  obtain ⟨c7, l7, rfl, h7⟩ := len_cons l6 3 h6
  obtain ⟨c8, l8, rfl, h8⟩ := len_cons l7 2 h7
  obtain ⟨c9, l9, rfl, h9⟩ := len_cons l8 1 h8
  obtain ⟨c10, l10, rfl, h10⟩ := len_cons l9 0 h9
  obtain rfl := List.eq_nil_of_length_eq_zero h10
  exact ⟨c0, c1, c2, c3, c4, c5, c6, c7, c8, c9, c10, rfl⟩

set_option maxRecDepth 100000 in
/-- A block as it comes in: eleven integers. -/
theorem open11 {H : Type} {enc : TypeId × Value → H} {w : World} {base : Nat} {spare : Nat → Bool} {held : Bool} {r : Reach} {b0 : Nat} {v : Value} {d : DataW H} {p : List MemPlace}
    (hv : Value.okWide Tryz.prog w r b0 24 v) (h : DataW.Trod enc Tryz.prog w base spare held 24 v d p) :
    ∃ c h x0 x1 x2 x3 x4 x5 x6 x7 s : Int, v = .agg #[.int .i64 c, .int .i64 h, .int .i64 x0, .int .i64 x1, .int .i64 x2, .int .i64 x3, .int .i64 x4, .int .i64 x5, .int .i64 x6, .int .i64 x7, .int .i64 s] := by
  obtain ⟨cs, rfl, hsz⟩ := okWide_struct Tryz.underlying24 hv
  obtain ⟨fuel, hf⟩ := h
  obtain ⟨xs, n, _, _, hl, hxl, hg⟩ := DataW.trod_struct Tryz.underlying24 hf
  have h11 : Tryz.prog.cellsOf 24 = 11 := by kernel_rfl
  have h8 : Tryz.prog.cellsOf 22 = 8 := by kernel_rfl
  obtain ⟨l⟩ := cs
  have hl11 : l.length = 11 := by rw [← h11]; simpa using hsz
  obtain ⟨c0, c1, c2, c3, c4, c5, c6, c7, c8, c9, c10, rfl⟩ := len11 l hl11
  · obtain ⟨y0, y1, y2, y3, rfl⟩ := len4 xs hxl
    · have hd : True := trivial
      have g0 := hg 0 _ rfl
      have g1 := hg 1 _ rfl
      have g2 := hg 2 _ rfl
      have g3 := hg 3 _ rfl
      simp [Value.cells, cellsInt, h8] at g0 g1 g2 g3
      obtain ⟨z0, e0, _⟩ := DataW.trod_int Tryz.underlying3 g0
      obtain ⟨z1, e1, _⟩ := DataW.trod_int Tryz.underlying3 g1
      obtain ⟨z10, e10, _⟩ := DataW.trod_int Tryz.underlying3 g3
      obtain ⟨us, m, _, _, _, hul, hel⟩ := DataW.trod_array arrUnder g2
      have el : ∀ i, i < 8 → ∃ z : Int, [c2, c3, c4, c5, c6, c7, c8, c9][i]? = some (.int .i64 z) := by
        intro i hi
        have q := hel i hi
        rw [cellsInt, List.getElem?_eq_getElem (show i < us.length by omega)] at q
        obtain ⟨z, e, _⟩ := DataW.trod_int Tryz.underlying3 q
        refine ⟨z, ?_⟩
        have := congrArg (fun x : List Value => x[0]?) e
        simp only [List.getElem?_take, List.getElem?_drop] at this
        simpa using this
      obtain ⟨z2, e2⟩ := el 0 (by omega)
      obtain ⟨z3, e3⟩ := el 1 (by omega)
      obtain ⟨z4, e4⟩ := el 2 (by omega)
      obtain ⟨z5, e5⟩ := el 3 (by omega)
      obtain ⟨z6, e6⟩ := el 4 (by omega)
      obtain ⟨z7, e7⟩ := el 5 (by omega)
      obtain ⟨z8, e8⟩ := el 6 (by omega)
      obtain ⟨z9, e9⟩ := el 7 (by omega)
      simp at e0 e1 e2 e3 e4 e5 e6 e7 e8 e9 e10
      exact ⟨z0, z1, z2, z3, z4, z5, z6, z7, z8, z9, z10, by rw [e0, e1, e2, e3, e4, e5, e6, e7, e8, e9, e10]⟩

end Go.Proofs.YtkemoffagdilgaaGreatDoor
