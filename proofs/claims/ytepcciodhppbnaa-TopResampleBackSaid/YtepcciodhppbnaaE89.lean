import Derived.Test.YtepcciodhppbnaaE23

namespace Go.Proofs.Ytepcciodhppbnaa
open Go.RowKit

set_option maxRecDepth 100000 in
set_option maxHeartbeats 2000000 in
theorem rAwake_any (w : World) : Calls Try.prog 27 #[] w fun e w' => e = .returned (.bool true) ∧ Below w.heap.size w w' := by
  go_enter Try.func27, Try.ntmps27
  go_wp2_with fail
  refine (Signal_any _).mono ?_
  rintro e w1 ⟨⟨B1, rfl, h1⟩, hb1⟩
  have l1 := Lib.hid hb1
  have C1 := Lib.hid (ex_value B1 w1 h1)
  clear hb1 h1
  go_wp2_with fail
  refine C1.out.mono ?_
  rintro e w2 ⟨rfl, hb2⟩
  have l2 := Lib.hid (l1.out.trans (hb2.mono l1.out.size))
  clear hb2 l1 C1
  go_wp2_with fail
  refine (ex_stb _).mono ?_
  rintro e w3 ⟨rfl, hb3⟩
  have l3 := Lib.hid (l2.out.trans (hb3.mono l2.out.size))
  clear hb3 l2
  go_wp2
  go_ret
  exact ⟨rfl, l3.out⟩

end Go.Proofs.Ytepcciodhppbnaa
