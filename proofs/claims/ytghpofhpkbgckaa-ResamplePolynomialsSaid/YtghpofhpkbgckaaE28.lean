import Derived.Test.YtghpofhpkbgckaaE27

namespace Go.Proofs.Ytghpofhpkbgckaa
open Go.RowKit

end Go.Proofs.Ytghpofhpkbgckaa
