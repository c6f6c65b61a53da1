import Derived.Test.YtkemoffagdilgaaDoorW31
namespace Go.Proofs.YtkemoffagdilgaaDoor
open Go.RowKit

end Go.Proofs.YtkemoffagdilgaaDoor
