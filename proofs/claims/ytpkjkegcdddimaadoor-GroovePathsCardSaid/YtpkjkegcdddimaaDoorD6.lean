import Derived.Test.YtpkjkegcdddimaaDoorD4
import Derived.Test.YtpkjkegcdddimaaDoorGK
namespace Go.Proofs.YtpkjkegcdddimaaDoor
open Go.RowKit

end Go.Proofs.YtpkjkegcdddimaaDoor
