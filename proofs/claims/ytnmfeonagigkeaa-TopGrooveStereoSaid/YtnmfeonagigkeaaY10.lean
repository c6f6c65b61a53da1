import Derived.Test.YtnmfeonagigkeaaY1
import Derived.Test.YtnmfeonagigkeaaY2
namespace Go.Proofs.Ytnmfeonagigkeaa
open Go.RowKit

theorem stereo_walk (A : Option Addr) (n c : Nat) (ws : List (Int × Int)) (w : World) (hA : A = none → n = 0 ∧ c = 0) (hw : RdP w A n ws) :
    Calls Try.prog 3 #[.slice A n c] w fun e w' => e = .returned (.bool true) ∧ Below w.heap.size w w' := by
  by_cases h0 : n = 0
  · exact st_none A n c ws w hA hw h0
  · by_cases hn : n ≤ 60
    · by_cases hE : wallsE ws = 0
      · exact st_ok A n c ws w hA hw (by omega) hn hE
      · exact st_err A n c ws w hA hw (by omega) hn _ rfl (by simpa using hE)
    · exact st_many A n c ws w hA hw hn

end Go.Proofs.Ytnmfeonagigkeaa
