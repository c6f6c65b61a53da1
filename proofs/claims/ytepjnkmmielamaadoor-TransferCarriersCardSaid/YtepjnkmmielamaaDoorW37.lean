import Derived.Test.YtepjnkmmielamaaDoorW36
namespace Go.Proofs.YtepjnkmmielamaaDoor
open Go.RowKit

set_option maxRecDepth 100000 in
set_option maxHeartbeats 2000000 in
theorem carriers_ok (nm : ByteArray) (k sd n d rate r A B : Int) (w : World) (hw : Laid w) (hs : nm.size ≤ 20)
    (h1 : ∀ W, Calls Tryd.prog 17 #[.agg #[.string nm, .int .i64 k, .int .i64 sd, .int .i64 n, .int .i64 d], .int .i64 rate] W fun e w' => e = .returned (.tuple #[.agg #[.int .i64 A, .int .i64 B], .int .i64 r]) ∧ Below W.heap.size W w')
    (h2 : ∀ W, Calls Tryd.prog 18 #[.agg #[.string nm, .int .i64 k, .int .i64 sd, .int .i64 n, .int .i64 d]] W fun e w' => e = .returned (.int .i64 0) ∧ Below W.heap.size W w')
    (h3 : ∀ W, Calls Tryd.prog 19 #[.agg #[.string nm, .int .i64 k, .int .i64 sd, .int .i64 n, .int .i64 d]] W fun e w' => e = .returned (.int .i64 0) ∧ Below W.heap.size W w')
    (h4 : ∀ W, Calls Tryd.prog 20 #[.agg #[.string nm, .int .i64 k, .int .i64 sd, .int .i64 n, .int .i64 d], .int .i64 rate] W fun e w' => e = .returned (.tuple #[.agg #[.int .i64 A, .int .i64 B], .int .i64 r]) ∧ Below W.heap.size W w') :
    Calls Tryd.prog 3 #[.agg #[.string nm, .int .i64 k, .int .i64 sd, .int .i64 n, .int .i64 d], .int .i64 rate] w fun e w' => e = .returned (.bool true) ∧ Below w.heap.size w w' := by
  have hs2 : ¬ (20 : Int) < nm.size := by omega
  have HW := Lib.hid hw
  have C1 := Lib.hid h1
  have C2 := Lib.hid h2
  have C3 := Lib.hid h3
  have C4 := Lib.hid h4
  clear hw hs h1 h2 h3 h4
  have B0 : Hid (Bk (w.alloc (.cells #[.string nm, .int .i64 k, .int .i64 sd, .int .i64 n, .int .i64 d] 25)) w.heap.size 25 #[.string nm, .int .i64 k, .int .i64 sd, .int .i64 n, .int .i64 d]) := Bk.new _ _ _
  have l0 : Hid (Below w.heap.size w (w.alloc (.cells #[.string nm, .int .i64 k, .int .i64 sd, .int .i64 n, .int .i64 d] 25))) := (Below.refl _ _).alloc (Nat.le_refl _) _
  go_enter Tryd.func3, Tryd.ntmps3
  go_wp2_with fail
  refine (awake_any _ (HW.out.later l0.out)).mono ?_
  rintro e w2 ⟨rfl, hb2⟩
  have B2 := B0.out.below hb2 (by simp)
  have l2 : Hid (Below w.heap.size w w2) := l0.out.trans (hb2.mono (by simp))
  have c0 := B2.cell 0
  have c1 := B2.cell 1
  have c2 := B2.cell 2
  have c3 := B2.cell 3
  have c4 := B2.cell 4
  simp at c0 c1 c2 c3 c4
  have H2 := Lib.hid B2
  clear hb2 l0 B0 B2
  go_wp2_with fail
  refine (C1.out _).mono ?_
  rintro e w3 ⟨rfl, hb3⟩
  have B3 := H2.out.below hb3 H2.out.lt
  have l3 : Hid (Below w.heap.size w w3) := l2.out.trans (hb3.mono l2.out.size)
  clear hb3 H2 c0 c1 c2 c3 c4
  have z3 : w.heap.size < w3.heap.size := B3.lt
  have BA : Bk (w3.alloc (.cells #[.int .i64 A, .int .i64 B] 23)) w3.heap.size 23 #[.int .i64 A, .int .i64 B] := Bk.new _ _ _
  have BC := B3.alloc (.cells #[.int .i64 A, .int .i64 B] 23)
  have l4 : Hid (Below w.heap.size w (w3.alloc (.cells #[.int .i64 A, .int .i64 B] 23))) := l3.out.alloc (by omega) _
  have c0 := BC.cell 0
  have c1 := BC.cell 1
  have c2 := BC.cell 2
  have c3 := BC.cell 3
  have c4 := BC.cell 4
  simp at c0 c1 c2 c3 c4
  have HA := Lib.hid BA
  have HC := Lib.hid BC
  clear BA BC B3 l3
  go_wp2_with fail
  refine (C2.out _).mono ?_
  rintro e w5 ⟨rfl, hb5⟩
  have BA := HA.out.below hb5 HA.out.lt
  have BC := HC.out.below hb5 HC.out.lt
  have l5 : Hid (Below w.heap.size w w5) := l4.out.trans (hb5.mono l4.out.size)
  clear hb5 HA HC c0 c1 c2 c3 c4
  have c0 := BC.cell 0
  have c1 := BC.cell 1
  have c2 := BC.cell 2
  have c3 := BC.cell 3
  have c4 := BC.cell 4
  simp at c0 c1 c2 c3 c4
  have HA := Lib.hid BA
  have HC := Lib.hid BC
  clear BA BC l4
  go_wp2_with fail
  refine (C3.out _).mono ?_
  rintro e w6 ⟨rfl, hb6⟩
  have BA := (HA.out.below hb6 HA.out.lt).alloc (.cells #[.int .i64 0, .int .i64 0] 23)
  have BC := (HC.out.below hb6 HC.out.lt).alloc (.cells #[.int .i64 0, .int .i64 0] 23)
  have l6 : Hid (Below w.heap.size w w6) := l5.out.trans (hb6.mono l5.out.size)
  have z6 : w3.heap.size < w6.heap.size := (HA.out.below hb6 HA.out.lt).lt
  have BR : Bk (w6.alloc (.cells #[.int .i64 0, .int .i64 0] 23)) w6.heap.size 23 #[.int .i64 0, .int .i64 0] := Bk.new _ _ _
  have l7 : Hid (Below w.heap.size w (w6.alloc (.cells #[.int .i64 0, .int .i64 0] 23))) := l6.out.alloc (by omega) _
  clear hb6 HA HC c0 c1 c2 c3 c4 l6 l5
  have c0 := BC.cell 0
  have c1 := BC.cell 1
  have c2 := BC.cell 2
  have c3 := BC.cell 3
  have c4 := BC.cell 4
  simp at c0 c1 c2 c3 c4
  have HA := Lib.hid BA
  have HR := Lib.hid BR
  clear BA BC BR
  go_wp2_with fail
  refine (C4.out _).mono ?_
  rintro e w8 ⟨rfl, hb8⟩
  have BA := HA.out.below hb8 HA.out.lt
  have BR := HR.out.below hb8 HR.out.lt
  have l8 : Hid (Below w.heap.size w w8) := l7.out.trans (hb8.mono l7.out.size)
  have z8 : w6.heap.size < w8.heap.size := BR.lt
  have a0 := BA.cell 0
  have a1 := BA.cell 1
  have r0 := BR.cell 0
  have r1 := BR.cell 1
  simp at a0 a1 r0 r1
  have f0 := BR.frozen 0
  have f1 := BR.frozen 1
  clear BA BR hb8 l7 HA HR c0 c1 c2 c3 c4
  go_wp2
  go_ret
  refine ⟨?_, ?_⟩
  · simp
  · refine Below.setCell (Below.setCell l8.out ?_ _) ?_ _
    · show w.heap.size ≤ w6.heap.size; omega
    · show w.heap.size ≤ w6.heap.size; omega

end Go.Proofs.YtepjnkmmielamaaDoor
