import Derived.Test.YtmeddnpahkigeaaDoorW22
namespace Go.Proofs.YtmeddnpahkigeaaDoor
open Go.RowKit

end Go.Proofs.YtmeddnpahkigeaaDoor
