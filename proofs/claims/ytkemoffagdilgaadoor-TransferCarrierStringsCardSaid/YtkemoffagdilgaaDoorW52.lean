import Derived.Test.YtkemoffagdilgaaDoorW51
import Derived.Test.YtkemoffagdilgaaDoorTA
namespace Go.Proofs.YtkemoffagdilgaaDoor
open Go.RowKit

end Go.Proofs.YtkemoffagdilgaaDoor
