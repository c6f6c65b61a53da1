import Derived.Test.YtepcciodhppbnaaE62

namespace Go.Proofs.Ytepcciodhppbnaa
open Go.RowKit

end Go.Proofs.Ytepcciodhppbnaa
