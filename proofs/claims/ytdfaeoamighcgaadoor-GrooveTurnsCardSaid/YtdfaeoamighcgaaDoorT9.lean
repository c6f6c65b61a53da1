import Derived.Test.YtdfaeoamighcgaaDoorT5
import Derived.Test.YtdfaeoamighcgaaDoorT6
import Derived.Test.YtdfaeoamighcgaaDoorT7
import Derived.Test.YtdfaeoamighcgaaDoorT8
namespace Go.Proofs.YtdfaeoamighcgaaDoor
open Go.RowKit

theorem turns_walk (A : Option Addr) (n c : Nat) (rows : List (List Int)) (limit : Int) (w : World) (hl : LaidSides w) (hr : RdGo w A n rows) :
    Calls Tryd.prog 14 #[.slice A n c, .int .i64 limit] w fun e w' => e = .returned (.bool true) ∧ Below w.heap.size w w' := by
  by_cases hn : n ≤ 22
  · by_cases hm : ∀ j, j < n → (rows.getD j []).length ≤ 203
    · by_cases hd : turnsE rows = 0
      · have hE : brkE rows limit = limE limit := by unfold brkE; rw [if_pos hd]
        by_cases hdl : limE limit = 0
        · have hlb : 0 ≤ limit ∧ limit ≤ 2000000 := by
            unfold limE at hdl
            by_cases h : fromB 0 2000000 [limit] = true
            · exact fromB_one.1 h
            · rw [if_neg h] at hdl; omega
          exact turns_ok A n c rows limit w hl (hr.full hm) hn hm _ _ _ _ rfl rfl rfl rfl hd hdl (hE.trans hdl) hlb (by unfold brkL; rw [if_pos (hE.trans hdl), hr.1])
        · exact turns_lim A n c rows limit w hl (hr.full hm) hn hm _ _ _ _ rfl rfl rfl rfl (by simpa using hdl) hd hE (by unfold brkL; rw [if_neg (by rw [hE]; exact hdl)])
      · have hE : brkE rows limit = turnsE rows := by unfold brkE; rw [if_neg hd]
        exact turns_err A n c rows limit w hl (hr.full hm) hn hm _ _ _ _ rfl rfl rfl rfl (by simpa using hd) (by simpa using hd) hE (by unfold brkL; rw [if_neg (by rw [hE]; exact hd)])
    · exact turns_long A n c rows limit w hl hr hn hm
  · exact turns_many A n c rows limit w hl hr hn

end Go.Proofs.YtdfaeoamighcgaaDoor
