import Derived.Test.YtofdjapbofagiaaDoorS0
namespace Go.Proofs.YtofdjapbofagiaaDoor
open Go.RowKit

end Go.Proofs.YtofdjapbofagiaaDoor
