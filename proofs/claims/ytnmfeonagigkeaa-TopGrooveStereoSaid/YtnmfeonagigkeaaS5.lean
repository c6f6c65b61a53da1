import Derived.Test.YtnmfeonagigkeaaS4
namespace Go.Proofs.Ytnmfeonagigkeaa
open Go.RowKit

end Go.Proofs.Ytnmfeonagigkeaa
