import Derived.Test.YtnmfeonagigkeaaB1
import Derived.Laws.Cover3
namespace Go.Proofs.Ytnmfeonagigkeaa
open Go.RowKit

theorem nilCmp (a : Option Addr) (n c : Nat) (W : World) : (binOp .eql 30 (.slice a n c) (.slice none 0 0)).run Try.prog W = .ok (.bool a.isNone) W := by
  have h := run_equal_slice_nil (P := Try.prog) W 30 3 a n c Try.underlying30
  simp only [binOp]
  simp [h]

end Go.Proofs.Ytnmfeonagigkeaa
