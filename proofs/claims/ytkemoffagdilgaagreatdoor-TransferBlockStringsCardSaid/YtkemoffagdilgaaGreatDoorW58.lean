import Derived.Test.YtkemoffagdilgaaGreatDoorW57
namespace Go.Proofs.YtkemoffagdilgaaGreatDoor
open Go.RowKit

end Go.Proofs.YtkemoffagdilgaaGreatDoor
