import Derived.Test.YtmeddnpahkigeaaDoorW51
import Derived.Test.YtmeddnpahkigeaaDoorPA
namespace Go.Proofs.YtmeddnpahkigeaaDoor
open Go.RowKit

end Go.Proofs.YtmeddnpahkigeaaDoor
