import Derived.Test.YtkemoffagdilgaaGreatDoorW31
namespace Go.Proofs.YtkemoffagdilgaaGreatDoor
open Go.RowKit

end Go.Proofs.YtkemoffagdilgaaGreatDoor
