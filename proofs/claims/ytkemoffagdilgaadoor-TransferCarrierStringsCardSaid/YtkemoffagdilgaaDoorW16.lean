import Derived.Test.YtkemoffagdilgaaDoorW15
namespace Go.Proofs.YtkemoffagdilgaaDoor
open Go.RowKit

def SomeBool (e : Ending) : Prop := ∃ b : Bool, e = .returned (.bool b)

def blockE (c h : Int) (xs : List Int) (s : Int) : Int := if contE c h xs = 0 then (if s = sumT c h xs then 0 else 20) else 2

end Go.Proofs.YtkemoffagdilgaaDoor
