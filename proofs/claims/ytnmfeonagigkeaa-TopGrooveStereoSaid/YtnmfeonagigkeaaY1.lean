import Derived.Test.YtnmfeonagigkeaaY0
import Derived.Test.YtnmfeonagigkeaaS1
namespace Go.Proofs.Ytnmfeonagigkeaa
open Go.RowKit

set_option maxRecDepth 100000 in
set_option maxHeartbeats 16000000 in
theorem st_none (A : Option Addr) (n c : Nat) (ws : List (Int × Int)) (w : World) (hA : A = none → n = 0 ∧ c = 0) (hw : RdP w A n ws) (h0 : n = 0) :
    Calls Try.prog 3 #[.slice A n c] w fun e w' => e = .returned (.bool true) ∧ Below w.heap.size w w' := by
  have HA := Lib.hid hA
  have HW := Lib.hid hw
  have HWL : Hid (ws.length = n) := hw.1
  clear hA hw
  subst h0
  go_enter Try.func3, Try.ntmps3
  go_wp2_with fail
  refine (shown_any _).mono ?_
  rintro e w1 ⟨rfl, hb1⟩
  have Fx1 := Lib.hid (HW.out.below hb1)
  have low1 := Lib.hid hb1
  clear hb1 HW
  go_wp2
  go_ret
  exact ⟨rfl, low1.out⟩

set_option maxRecDepth 100000 in
set_option maxHeartbeats 16000000 in
theorem st_many (A : Option Addr) (n c : Nat) (ws : List (Int × Int)) (w : World) (hA : A = none → n = 0 ∧ c = 0) (hw : RdP w A n ws) (hn : ¬ n ≤ 60) :
    Calls Try.prog 3 #[.slice A n c] w fun e w' => e = .returned (.bool true) ∧ Below w.heap.size w w' := by
  have HA := Lib.hid hA
  have HW := Lib.hid hw
  have HWL : Hid (ws.length = n) := hw.1
  clear hA hw
  have hn0 : ((n : Int) == 0) = false := by rw [beq_eq_false_iff_ne]; omega
  have hnI : (60 : Int) < (n : Int) := by omega
  go_enter Try.func3, Try.ntmps3
  go_wp2_with fail
  refine (shown_any _).mono ?_
  rintro e w1 ⟨rfl, hb1⟩
  have Fx1 := Lib.hid (HW.out.below hb1)
  have low1 := Lib.hid hb1
  clear hb1 HW
  go_wp2
  go_ret
  exact ⟨rfl, low1.out⟩

set_option maxRecDepth 100000 in
set_option maxHeartbeats 16000000 in
theorem st_err (A : Option Addr) (n c : Nat) (ws : List (Int × Int)) (w : World) (hA : A = none → n = 0 ∧ c = 0) (hw : RdP w A n ws) (h0 : 0 < n) (hn : n ≤ 60) (d : Int) (hd : wallsE ws = d) (hd0 : (d != 0) = true) :
    Calls Try.prog 3 #[.slice A n c] w fun e w' => e = .returned (.bool true) ∧ Below w.heap.size w w' := by
  have HA := Lib.hid hA
  have HW := Lib.hid hw
  have HWL : Hid (ws.length = n) := hw.1
  clear hA hw
  have CE : Hid (∀ W, RdP W A n ws → Calls Try.prog 5 #[.slice A n c] W fun e w' => e = .returned (.int .i64 d) ∧ Below W.heap.size W w') := fun W h => by rw [← hd]; exact refWallsErr_any A n c ws W h (by omega)
  have hn0 : ((n : Int) == 0) = false := by rw [beq_eq_false_iff_ne]; omega
  have hnI : ¬ (60 : Int) < (n : Int) := by omega
  clear hd
  go_enter Try.func3, Try.ntmps3
  go_wp2_with fail
  refine (shown_any _).mono ?_
  rintro e w1 ⟨rfl, hb1⟩
  have Fx1 := Lib.hid (HW.out.below hb1)
  have low1 := Lib.hid hb1
  clear hb1 HW
  go_wp2_with fail
  refine (CE.out _ Fx1.out).mono ?_
  rintro e w2 ⟨rfl, hb2⟩
  have Fx2 := Lib.hid (Fx1.out.below hb2)
  have low2 := Lib.hid (low1.out.trans (hb2.mono low1.out.size))
  clear hb2 Fx1 low1
  go_wp2
  go_ret
  exact ⟨rfl, low2.out⟩

end Go.Proofs.Ytnmfeonagigkeaa
