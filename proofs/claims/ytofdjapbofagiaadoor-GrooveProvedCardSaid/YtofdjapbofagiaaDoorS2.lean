import Derived.Test.YtofdjapbofagiaaDoorS1
namespace Go.Proofs.YtofdjapbofagiaaDoor
open Go.RowKit

def widP (p : Int × Int) : Int := p.2 - p.1
def widL (ws : List (Int × Int)) : List Int := if wallsE ws = 0 then ws.map widP else []
theorem matField (a b : Int) (W : World) : (Instr.field 96 (.agg #[.int .i64 a, .int .i64 b]) 1).run Tryd.prog W = .ok (.int .i64 b) W := by kernel_rfl
end Go.Proofs.YtofdjapbofagiaaDoor
