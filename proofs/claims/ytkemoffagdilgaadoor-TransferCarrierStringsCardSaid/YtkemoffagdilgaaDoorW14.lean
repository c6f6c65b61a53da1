import Derived.Test.YtkemoffagdilgaaDoorW13
namespace Go.Proofs.YtkemoffagdilgaaDoor
open Go.RowKit

def smpB (xs : List Int) : Bool := decide (rangesE xs (-32767) 32767 = 0)

theorem contE_cases (c h : Int) (xs : List Int) : contE c h xs = if inB c 0 65535 && inB h 0 3 && smpB xs then 0 else 2 := by
  unfold contE smpB rangeE
  rcases rangesE_cases xs (-32767) 32767 with e | e <;> cases inB c 0 65535 <;> cases inB h 0 3 <;> simp [firstE, e]

end Go.Proofs.YtkemoffagdilgaaDoor
