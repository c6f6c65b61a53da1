import Derived.Test.YtkemoffagdilgaaGreatDoorW30
import Derived.Test.YtkemoffagdilgaaGreatDoorW20
namespace Go.Proofs.YtkemoffagdilgaaGreatDoor
open Go.RowKit

def refCE (b1 : Bool) (k sd : Int) (b2 : Bool) (n d : Int) : Int :=
  bif !b1 then 4 else bif !(inB k 0 2) then 15 else bif !(inB sd 1 2) then 2 else bif (k != 0 && sd == 2) || !b2 then 3 else bif !(inB n 1 10000) || decide (10000 < d) then 2 else 0

end Go.Proofs.YtkemoffagdilgaaGreatDoor
