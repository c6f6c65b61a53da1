import Derived.Test.YtkemoffagdilgaaDoorW22
namespace Go.Proofs.YtkemoffagdilgaaDoor
open Go.RowKit

end Go.Proofs.YtkemoffagdilgaaDoor
