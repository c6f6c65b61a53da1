import Derived.Test.YtnmfeonagigkeaaB2
import Derived.Test.YtnmfeonagigkeaaB0
namespace Go.Proofs.Ytnmfeonagigkeaa
open Go.RowKit

end Go.Proofs.Ytnmfeonagigkeaa
