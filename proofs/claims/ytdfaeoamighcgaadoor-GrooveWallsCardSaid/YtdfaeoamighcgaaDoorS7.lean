import Derived.Test.YtdfaeoamighcgaaDoorS6
namespace Go.Proofs.YtdfaeoamighcgaaDoor
open Go.RowKit

set_option maxRecDepth 100000 in
set_option maxHeartbeats 8000000 in
theorem walls_many1 (A : Option Addr) (n c : Nat) (ws : List (Int × Int)) (B : Option Addr) (k cB : Nat) (ms : List (Int × Int)) (w : World) (hl : LaidSides w) (hA : A = none → n = 0 ∧ c = 0) (hB : B = none → k = 0 ∧ cB = 0) (hw : RdP w A n ws) (hm : RdP w B k ms) (hn : ¬ n ≤ 203) :
    Calls Tryd.prog 15 #[.slice A n c, .slice B k cB] w fun e w' => e = .returned (.bool true) ∧ Below w.heap.size w w' := by
  have HL := Lib.hid hl
  have HA := Lib.hid hA
  have HB := Lib.hid hB
  have HW := Lib.hid hw
  have HM := Lib.hid hm
  clear hl hA hB hw hm
  have hnI :  (203 : Int) < (n : Int) := by omega
  go_enter Tryd.func15, Tryd.ntmps15
  go_wp2_with fail
  refine (awake_any _ HL.out).mono ?_
  rintro e w1 ⟨rfl, hb1⟩
  have l1 := Lib.hid hb1
  clear HL HW HM hb1
  go_wp2
  go_ret
  exact ⟨rfl, l1.out⟩

set_option maxRecDepth 100000 in
set_option maxHeartbeats 8000000 in
theorem walls_many2 (A : Option Addr) (n c : Nat) (ws : List (Int × Int)) (B : Option Addr) (k cB : Nat) (ms : List (Int × Int)) (w : World) (hl : LaidSides w) (hA : A = none → n = 0 ∧ c = 0) (hB : B = none → k = 0 ∧ cB = 0) (hw : RdP w A n ws) (hm : RdP w B k ms) (hn : n ≤ 203) (hk : ¬ k ≤ 203) :
    Calls Tryd.prog 15 #[.slice A n c, .slice B k cB] w fun e w' => e = .returned (.bool true) ∧ Below w.heap.size w w' := by
  have HL := Lib.hid hl
  have HA := Lib.hid hA
  have HB := Lib.hid hB
  have HW := Lib.hid hw
  have HM := Lib.hid hm
  clear hl hA hB hw hm
  have hnI : ¬ (203 : Int) < (n : Int) := by omega
  have hkI : (203 : Int) < (k : Int) := by omega
  go_enter Tryd.func15, Tryd.ntmps15
  go_wp2_with fail
  refine (awake_any _ HL.out).mono ?_
  rintro e w1 ⟨rfl, hb1⟩
  have l1 := Lib.hid hb1
  clear HL HW HM hb1
  go_wp2
  go_ret
  exact ⟨rfl, l1.out⟩

end Go.Proofs.YtdfaeoamighcgaaDoor
