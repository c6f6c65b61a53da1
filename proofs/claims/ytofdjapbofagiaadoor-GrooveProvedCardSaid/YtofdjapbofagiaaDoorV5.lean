import Derived.Test.YtofdjapbofagiaaDoorV4
namespace Go.Proofs.YtofdjapbofagiaaDoor
open Go.RowKit

end Go.Proofs.YtofdjapbofagiaaDoor
