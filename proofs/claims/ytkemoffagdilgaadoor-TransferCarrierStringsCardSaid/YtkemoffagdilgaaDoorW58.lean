import Derived.Test.YtkemoffagdilgaaDoorW57
namespace Go.Proofs.YtkemoffagdilgaaDoor
open Go.RowKit

end Go.Proofs.YtkemoffagdilgaaDoor
