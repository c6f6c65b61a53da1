import Derived.Test.YtkemoffagdilgaaGreatDoorW22
namespace Go.Proofs.YtkemoffagdilgaaGreatDoor
open Go.RowKit

end Go.Proofs.YtkemoffagdilgaaGreatDoor
