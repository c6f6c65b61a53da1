import Derived.Test.YtnmfeonagigkeaaDoorS0
namespace Go.Proofs.YtnmfeonagigkeaaDoor
open Go.RowKit

end Go.Proofs.YtnmfeonagigkeaaDoor
