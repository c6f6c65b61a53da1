import Derived.Test.YtdfaeoamighcgaaDoorV2
import Derived.Test.YtdfaeoamighcgaaDoorV3
import Derived.Test.YtdfaeoamighcgaaDoorV5
namespace Go.Proofs.YtdfaeoamighcgaaDoor
open Go.RowKit


set_option maxRecDepth 100000 in
set_option maxHeartbeats 4000000 in
theorem vel_long (A : Option Addr) (n c : Nat) (xs : List Int) (start limit : Int) (w : World) (hl : LaidSides w) (hA : A = none → n = 0 ∧ c = 0) (hr : RdI w A n xs) (hn : ¬ n ≤ 203) :
    Calls Tryd.prog 11 #[.slice A n c, .int .i64 start, .int .i64 limit] w fun e w' => e = .returned (.bool true) ∧ Below w.heap.size w w' := by
  have HL := Lib.hid hl
  have HA := Lib.hid hA
  have HR := Lib.hid hr
  have HLN : Hid (xs.length = n) := hr.1
  clear hl hA hr
  have CLONG : Hid (∀ (W : World) (c : Nat), Calls Tryd.prog 59 #[.slice A n c] W fun e w' => e = .returned (.bool false) ∧ W = w') := fun W c => by have h := long_any A n c W; rw [decide_eq_false hn] at h; exact h
  go_enter Tryd.func11, Tryd.ntmps11
  go_wp2_with fail
  refine (awake_any _ HL.out).mono ?_
  rintro e w1 ⟨rfl, hb1⟩
  have Fl1 := Lib.hid (HR.out.below hb1)
  have l1 := Lib.hid hb1
  clear HR hb1
  go_wp2_with fail
  refine (CLONG.out _ _).mono ?_
  rintro e w' ⟨rfl, rfl⟩
  go_wp2
  go_ret
  exact ⟨rfl, l1.out⟩

end Go.Proofs.YtdfaeoamighcgaaDoor
