import Derived.Test.YtkemoffagdilgaaDoorST16
import Derived.Test.YtkemoffagdilgaaDoorW26
namespace Go.Proofs.YtkemoffagdilgaaDoor
open Go.ChangeShapes Go.WideShapes Go.ChangeAt Go.RowKit

theorem i64_bds {a : Int} (h : (Lit.int .i64 a).wf = true) : -9223372036854775808 ≤ a ∧ a ≤ 9223372036854775807 := by
  have := bounds_i64 h
  omega
theorem lenC5 {α : Type} (l : List α) (h : l.length = 5) : ∃ a b c d e, l = [a, b, c, d, e] := by
  match l, h with
  | [a, b, c, d, e], _ => exact ⟨a, b, c, d, e, rfl⟩
theorem lenC4 {α : Type} (l : List α) (h : l.length = 4) : ∃ a b c d, l = [a, b, c, d] := by
  match l, h with
  | [a, b, c, d], _ => exact ⟨a, b, c, d, rfl⟩
theorem lenC2 {α : Type} (l : List α) (h : l.length = 2) : ∃ a b, l = [a, b] := by
  match l, h with
  | [a, b], _ => exact ⟨a, b, rfl⟩
set_option maxRecDepth 100000 in
theorem openStr {w : World} {r : Reach} {b0 : Nat} {v : Value}
    (hv : Value.okWide Tryd.prog w r b0 9 v) : ∃ s : ByteArray, v = .string s := okWide_string Tryd.underlying9 hv

set_option maxRecDepth 100000 in
/-- A carrier as it comes in: a string and four integers. -/
theorem openCar {H : Type} {enc : TypeId × Value → H} {w : World} {base : Nat} {spare : Nat → Bool} {held : Bool} {r : Reach} {b0 : Nat} {v : Value} {d : DataW H} {p : List MemPlace}
    (hv : Value.okWide Tryd.prog w r b0 25 v) (h : DataW.Trod enc Tryd.prog w base spare held 25 v d p) :
    ∃ (nm : ByteArray) (k sd n e : Int), v = .agg #[.string nm, .int .i64 k, .int .i64 sd, .int .i64 n, .int .i64 e] ∧ (-9223372036854775808 ≤ sd ∧ sd ≤ 9223372036854775807) ∧ (-9223372036854775808 ≤ n ∧ n ≤ 9223372036854775807) ∧ (-9223372036854775808 ≤ e ∧ e ≤ 9223372036854775807) := by
  obtain ⟨cs, rfl, hsz⟩ := okWide_struct Tryd.underlying25 hv
  obtain ⟨fuel, hf⟩ := h
  obtain ⟨xs, n, _, _, hl, hxl, hg⟩ := DataW.trod_struct Tryd.underlying25 hf
  have h5 : Tryd.prog.cellsOf 25 = 5 := by kernel_rfl
  have h2 : Tryd.prog.cellsOf 23 = 2 := by kernel_rfl
  have hS : Tryd.prog.cellsOf 9 = 1 := by kernel_rfl
  obtain ⟨l⟩ := cs
  have hl5 : l.length = 5 := by rw [← h5]; simpa using hsz
  obtain ⟨c0, c1, c2, c3, c4, rfl⟩ := lenC5 l hl5
  obtain ⟨y0, y1, y2, y3, rfl⟩ := lenC4 xs hxl
  have g0 := hg 0 _ rfl
  have g1 := hg 1 _ rfl
  have g2 := hg 2 _ rfl
  have g3 := hg 3 _ rfl
  simp [Value.cells, cellsInt, h2, hS] at g0 g1 g2 g3
  obtain ⟨s0, e0, _⟩ := DataW.trod_string Tryd.underlying9 g0
  obtain ⟨z1, e1, _⟩ := DataW.trod_int Tryd.underlying3 g1
  obtain ⟨z2, e2, _, w2⟩ := DataW.trod_int Tryd.underlying3 g2
  obtain ⟨us, m, _, _, _, hul, hel⟩ := DataW.trod_struct Tryd.underlying23 g3
  obtain ⟨u0, u1, rfl⟩ := lenC2 us hul
  have k0 := hel 0 _ rfl
  have k1 := hel 1 _ rfl
  simp [cellsInt] at k0 k1
  obtain ⟨z3, e3, _, w3⟩ := DataW.trod_int Tryd.underlying3 k0
  obtain ⟨z4, e4, _, w4⟩ := DataW.trod_int Tryd.underlying3 k1
  simp at e0 e1 e2 e3 e4
  exact ⟨s0, z1, z2, z3, z4, by rw [e0, e1, e2, e3, e4], i64_bds w2, i64_bds w3, i64_bds w4⟩

end Go.Proofs.YtkemoffagdilgaaDoor
