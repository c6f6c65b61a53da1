import Derived.Test.YtepcciodhppbnaaE46

namespace Go.Proofs.Ytepcciodhppbnaa
open Go.RowKit

/-- A slice of integers of the call's own, and a bool. -/
def OwnResB (w : World) (b : Bool) (xs : List Int) (e : Ending) (w' : World) : Prop :=
  (∃ v, e = .returned (.tuple #[v, .bool b]) ∧ w'.ownsRow w.heap.size 3 1 v xs.length (xs.map (Value.int .i64))) ∧ Below w.heap.size w w'
theorem OwnResB.none_ {w w' : World} {b : Bool} (h : Below w.heap.size w w') : OwnResB w b [] (.returned (.tuple #[.slice none 0 0, .bool b])) w' := ⟨⟨_, rfl, World.ownsRow_nil _ _ _ _⟩, h⟩
def eqY (f s d : Int) (xs : List Int) : List Int := if (eqR f s d 0 0 xs).2 = 0 then (eqR f s d 0 0 xs).1 else []
def eqB (f s d : Int) (xs : List Int) : Bool := decide ((eqR f s d 0 0 xs).2 = 0)
theorem eq_done {f s d : Int} {xs ys : List Int} (h : eqR f s d 0 0 xs = (ys, 0)) : eqY f s d xs = ys ∧ eqB f s d xs = true := by simp [eqY, eqB, h]
theorem eq_stop {f s d : Int} {xs : List Int} (h : (eqR f s d 0 0 xs).2 = 23) : eqY f s d xs = [] ∧ eqB f s d xs = false := by simp [eqY, eqB, h]

end Go.Proofs.Ytepcciodhppbnaa
