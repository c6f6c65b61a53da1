import Derived.Test.YtdfaeoamighcgaaDoorS7
import Derived.Test.YtdfaeoamighcgaaDoorS8
import Derived.Test.YtdfaeoamighcgaaDoorS9
namespace Go.Proofs.YtdfaeoamighcgaaDoor
open Go.RowKit

theorem walls_walk (A : Option Addr) (n c : Nat) (ws : List (Int × Int)) (B : Option Addr) (k cB : Nat) (ms : List (Int × Int)) (w : World) (hl : LaidSides w) (hA : A = none → n = 0 ∧ c = 0) (hw : RdP w A n ws) (hB : B = none → k = 0 ∧ cB = 0) (hm : RdP w B k ms) :
    Calls Tryd.prog 15 #[.slice A n c, .slice B k cB] w fun e w' => e = .returned (.bool true) ∧ Below w.heap.size w w' := by
  by_cases hn : n ≤ 203
  · by_cases hk : k ≤ 203
    · have hx : (wlsL ms).length ≤ 203 := by
        unfold wlsL
        split
        · rw [List.length_map, hm.1]; exact hk
        · simp
      by_cases hd : wallsE ws = 0
      · exact walls_ok A n c ws B k cB ms w hl hA hB hw hm hn hk _ _ _ _ _ _ rfl rfl rfl rfl rfl rfl hx hd
      · exact walls_err A n c ws B k cB ms w hl hA hB hw hm hn hk _ _ _ _ _ _ rfl rfl rfl rfl rfl rfl hx (by simpa using hd) (by unfold widL; rw [if_neg hd]) (by unfold matL; rw [if_neg hd])
    · exact walls_many2 A n c ws B k cB ms w hl hA hB hw hm hn hk
  · exact walls_many1 A n c ws B k cB ms w hl hA hB hw hm hn

end Go.Proofs.YtdfaeoamighcgaaDoor
