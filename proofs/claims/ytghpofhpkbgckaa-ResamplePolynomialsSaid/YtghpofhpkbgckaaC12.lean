/-
  lacquerlaw04.ResamplePolynomials answers true for all inputs: the interpolation of the degree d of a polynomial of the degree d + 1 differs from its value by the difference of the order d + 1 times the remainder; the remainder is at most the maximum one. Conditions: none of its own.
-/
import Derived.Test.YtghpofhpkbgckaaQ12
import Derived.Test.YtghpofhpkbgckaaCO
import Derived.Test.YtghpofhpkbgckaaRows
import Derived.ProofKit
import Derived.OpenShut
import Derived.Carry
namespace Go.Proofs.Ytghpofhpkbgckaa.cResamplePolynomials
open Go.ChangeShapes Go.WideShapes Go.ChangeAt Go.RowKit Go.Proofs.Ytghpofhpkbgckaa.op

theorem arr5 : Try.prog.underlying 81 = some (.array 5 3) := by kernel_rfl
theorem cells5 : Try.prog.cellsOf 81 = 5 := by kernel_rfl
set_option maxRecDepth 100000 in
/-- A polynomial as it comes in: seven integers. -/
theorem open_poly {H : Type} {enc : TypeId × Value → H} {w : World} {base : Nat} {spare : Nat → Bool} {held : Bool} {r : Reach} {b0 : Nat} {v : Value} {d : DataW H} {p : List MemPlace}
    (hv : Value.okWide Try.prog w r b0 83 v) (h : DataW.Trod enc Try.prog w base spare held 83 v d p) :
    ∃ a c0 c1 c2 c3 c4 q : Int, v = .agg #[.int .i64 a, .int .i64 c0, .int .i64 c1, .int .i64 c2, .int .i64 c3, .int .i64 c4, .int .i64 q] := by
  obtain ⟨cs, rfl, hsz⟩ := okWide_struct Try.underlying83 hv
  obtain ⟨fuel, hf⟩ := h
  obtain ⟨xs, n, _, _, hl, hxl, hg⟩ := DataW.trod_struct Try.underlying83 hf
  have h7 : Try.prog.cellsOf 83 = 7 := by kernel_rfl
  obtain ⟨l⟩ := cs
  have hl7 : l.length = 7 := by rw [← h7]; simpa using hsz
  match l, hl7, xs, hxl with
  | [k0, k1, k2, k3, k4, k5, k6], _, [y0, y1, y2], _ =>
    have g0 := hg 0 _ rfl
    have g1 := hg 1 _ rfl
    have g2 := hg 2 _ rfl
    simp [Value.cells, cellsI, cells5] at g0 g1 g2
    obtain ⟨z0, e0, _, _⟩ := DataW.trod_int Try.underlying3 g0
    obtain ⟨z2, e2, _, _⟩ := DataW.trod_int Try.underlying3 g2
    obtain ⟨us, m, _, _, _, hul, hel⟩ := DataW.trod_array arr5 g1
    have el : ∀ i, i < 5 → ∃ z : Int, [k1, k2, k3, k4, k5][i]? = some (.int .i64 z) := by
      intro i hi
      have q := hel i hi
      rw [cellsInt1, List.getElem?_eq_getElem (show i < us.length by omega)] at q
      obtain ⟨z, e, _⟩ := DataW.trod_int Try.underlying3 q
      refine ⟨z, ?_⟩
      have := congrArg (fun x : List Value => x[0]?) e
      simp only [List.getElem?_take, List.getElem?_drop] at this
      simpa [Value.cells] using this
    obtain ⟨a0, f0⟩ := el 0 (by omega)
    obtain ⟨a1, f1⟩ := el 1 (by omega)
    obtain ⟨a2, f2⟩ := el 2 (by omega)
    obtain ⟨a3, f3⟩ := el 3 (by omega)
    obtain ⟨a4, f4⟩ := el 4 (by omega)
    simp at e0 e2 f0 f1 f2 f3 f4
    exact ⟨z0, a0, a1, a2, a3, a4, z2, by rw [e0, e2, f0, f1, f2, f3, f4]⟩

set_option maxRecDepth 100000 in
theorem lifted (os : Os) (started : os.Started) (H : Type) (enc : TypeId × Value → H) :
    ReturnsInHanded {} Try.checked os 11 .any (Rows.resamplePolynomialsSpec.pre6 enc Try.prog Try.f11 Rows.resamplePolynomialsRow.domain false) (Rows.resamplePolynomialsSpec.post enc Try.prog Try.f11 false true false false) := by
  refine returnsInHanded_of_change (C := Try.checked) own started (by kernel_rfl) Try.func11
    (ChangeSpec.witness6 (enc := enc) (C := Try.checked) false ⟨#[], #[.agg #[.int .i64 0, .int .i64 0, .int .i64 0, .int .i64 0, .int .i64 0, .int .i64 0, .int .i64 0]], []⟩ 8 (by kernel_rfl) (by kernel_rfl) (by kernel_rfl) (by kernel_rfl)) ?_
  intro W base args ds gs before hval0 hW hcnd _
  have hval : ∀ (j : Nat) t v, Try.f11.params[j]? = some t → args[j]? = some v → Value.okWide Try.prog W .any base t v := hval0
  have hW' := hW
  obtain ⟨p, q, hA0, hV, rfl, hfz, hnd⟩ := hW
  have hA : DataW.TrodAll enc Try.prog W 0 (fun _ => true) true Try.f11.params.toList args.toList ds p := hA0
  rw [Try.params11] at hA hval
  obtain ⟨v0, d0, rfl, rfl, h0⟩ := trodAll_one hA
  obtain ⟨rfl, rfl⟩ := trodVars_none hV
  have lt0 : ∀ x ∈ p, x.block < W.heap.size := by obtain ⟨m, hm⟩ := h0; exact DataW.trod_lt m _ _ _ hm
  obtain ⟨x0, x1, x2, x3, x4, x5, x6, rfl⟩ := open_poly (hval 0 83 v0 rfl rfl) h0
  clear hA0 hval0
  refine (poly_walk x0 x1 x2 x3 x4 x5 x6 W).mono fun e W' ⟨he, bel⟩ => ?_
  subst he
  refine ⟨_, rfl, _, _, _, [], p, [], hW', trodAll_mk1 (shut_bool Try.underlying4 _), trodAll_mk1 (Below.trod laidOut (by kernel_rfl) (of_decide_eq_true (by kernel_rfl)) h0 bel lt0), rfl, bel.frame _, fun h => by cases h⟩

theorem row_holds : Rows.ResamplePolynomialsSaid :=
  OpenClaim.holds_of_wide 11 Try.f11 rfl rfl rfl rfl rfl rfl rfl ⟨rfl, rfl, rfl, rfl, rfl⟩ rfl rfl rfl rfl rfl (by kernel_rfl) Try.func11 (by kernel_rfl)
    (of_decide_eq_true (by kernel_rfl)) (by unfold Func.isWrapper; first | (rw [if_pos (by decide +kernel)]; kernel_rfl) | (rw [if_neg (by decide +kernel)]; exact ⟨rfl, rfl⟩))
    (fun os started H enc _ => lifted os started H enc)
#print axioms row_holds
end Go.Proofs.Ytghpofhpkbgckaa.cResamplePolynomials
