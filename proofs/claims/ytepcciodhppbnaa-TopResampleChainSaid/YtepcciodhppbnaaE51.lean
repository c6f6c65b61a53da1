import Derived.Test.YtepcciodhppbnaaE50

namespace Go.Proofs.Ytepcciodhppbnaa
open Go.RowKit

end Go.Proofs.Ytepcciodhppbnaa
