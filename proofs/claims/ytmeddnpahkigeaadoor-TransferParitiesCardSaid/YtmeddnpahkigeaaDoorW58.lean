import Derived.Test.YtmeddnpahkigeaaDoorW57
namespace Go.Proofs.YtmeddnpahkigeaaDoor
open Go.RowKit

end Go.Proofs.YtmeddnpahkigeaaDoor
