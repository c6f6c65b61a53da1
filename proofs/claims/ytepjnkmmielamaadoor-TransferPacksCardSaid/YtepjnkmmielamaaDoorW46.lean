import Derived.Test.YtepjnkmmielamaaDoorW45
import Derived.Test.YtepjnkmmielamaaDoorW42
import Derived.Test.YtepjnkmmielamaaDoorW22
namespace Go.Proofs.YtepjnkmmielamaaDoor
open Go.RowKit

set_option maxRecDepth 100000 in
set_option maxHeartbeats 2000000 in
theorem packs_err (x0 x1 x2 x3 x4 x5 x6 x7 p k : Int) (w : World) (hw : Laid w) (he : rangesE [x0, x1, x2, x3, x4, x5, x6, x7] (-32767) 32767 ≠ 0) :
    Calls Tryd.prog 9 #[.agg #[.int .i64 x0, .int .i64 x1, .int .i64 x2, .int .i64 x3, .int .i64 x4, .int .i64 x5, .int .i64 x6, .int .i64 x7], .int .i64 p, .int .i64 k] w fun e w' => e = .returned (.bool true) ∧ Below w.heap.size w w' := by
  have HW := Lib.hid hw
  have h2 : rangesE [x0, x1, x2, x3, x4, x5, x6, x7] (-32767) 32767 = 2 := (rangesE_cases _ _ _).resolve_left he
  have hb2 : bitsE [x0, x1, x2, x3, x4, x5, x6, x7] p k = 2 := by unfold bitsE; rw [h2]; rfl
  have CB : Hid (∀ W, Calls Tryd.prog 46 #[.agg #[.int .i64 x0, .int .i64 x1, .int .i64 x2, .int .i64 x3, .int .i64 x4, .int .i64 x5, .int .i64 x6, .int .i64 x7], .int .i64 p, .int .i64 k] W fun e w' => e = .returned (.tuple #[.int .i64 0, .int .i64 2]) ∧ Below W.heap.size W w') := fun W => bitsHead x0 x1 x2 x3 x4 x5 x6 x7 p k 2 W hb2 (by omega)
  have CP : Hid (∀ W, Calls Tryd.prog 47 #[.agg #[.int .i64 x0, .int .i64 x1, .int .i64 x2, .int .i64 x3, .int .i64 x4, .int .i64 x5, .int .i64 x6, .int .i64 x7]] W fun e w' => e = .returned (.tuple #[.slice none 0 0, .int .i64 2]) ∧ Below W.heap.size W w') := fun W => packed_err _ _ W (is8_lit x0 x1 x2 x3 x4 x5 x6 x7) he
  have CS : Hid (∀ W, Calls Tryd.prog 48 #[.agg #[.int .i64 x0, .int .i64 x1, .int .i64 x2, .int .i64 x3, .int .i64 x4, .int .i64 x5, .int .i64 x6, .int .i64 x7]] W fun e w' => e = .returned (.int .i64 2) ∧ Below W.heap.size W w') := fun W => by have := samplesErr_any _ _ W (is8_lit x0 x1 x2 x3 x4 x5 x6 x7); rw [h2] at this; exact this
  have HI := Lib.hid (arrInfoL x0 x1 x2 x3 x4 x5 x6 x7)
  have X0 : Hid (Bk (w.alloc (.cells #[.int .i64 x0, .int .i64 x1, .int .i64 x2, .int .i64 x3, .int .i64 x4, .int .i64 x5, .int .i64 x6, .int .i64 x7] 35)) w.heap.size 35 #[.int .i64 x0, .int .i64 x1, .int .i64 x2, .int .i64 x3, .int .i64 x4, .int .i64 x5, .int .i64 x6, .int .i64 x7]) := Bk.new _ _ _
  have l0 : Hid (Below w.heap.size w (w.alloc (.cells #[.int .i64 x0, .int .i64 x1, .int .i64 x2, .int .i64 x3, .int .i64 x4, .int .i64 x5, .int .i64 x6, .int .i64 x7] 35))) := (Below.refl _ _).alloc (Nat.le_refl _) _
  clear hw he h2 hb2
  go_enter Tryd.func9, Tryd.ntmps9
  go_wp2_with fail
  refine (awake_any _ (HW.out.later l0.out)).mono ?_
  rintro e w2 ⟨rfl, hb2⟩
  have X2 : Hid (Bk w2 w.heap.size 35 #[.int .i64 x0, .int .i64 x1, .int .i64 x2, .int .i64 x3, .int .i64 x4, .int .i64 x5, .int .i64 x6, .int .i64 x7]) := X0.out.below hb2 (by simp)
  have l2 : Hid (Below w.heap.size w w2) := l0.out.trans (hb2.mono (by simp))
  clear hb2 X0 l0
  go_wp2_with (with_reducible refine wpList_load_row rfl 35 (.tmp 3) rfl w.heap.size rfl 35 #[.int .i64 x0, .int .i64 x1, .int .i64 x2, .int .i64 x3, .int .i64 x4, .int .i64 x5, .int .i64 x6, .int .i64 x7] (0, 0) _ X2.out.heap arrUnder rfl HI.out ?_)
  refine (CB.out _).mono ?_
  rintro e w3 ⟨rfl, hb3⟩
  have X3 : Hid (Bk w3 w.heap.size 35 #[.int .i64 x0, .int .i64 x1, .int .i64 x2, .int .i64 x3, .int .i64 x4, .int .i64 x5, .int .i64 x6, .int .i64 x7]) := X2.out.below hb3 X2.out.lt
  have l3 : Hid (Below w.heap.size w w3) := l2.out.trans (hb3.mono l2.out.size)
  clear hb3 X2 l2
  go_wp2_with (with_reducible refine wpList_load_row rfl 35 (.tmp 3) rfl w.heap.size rfl 35 #[.int .i64 x0, .int .i64 x1, .int .i64 x2, .int .i64 x3, .int .i64 x4, .int .i64 x5, .int .i64 x6, .int .i64 x7] (0, 0) _ X3.out.heap arrUnder rfl HI.out ?_)
  refine (CP.out _).mono ?_
  rintro e w4 ⟨rfl, hb4⟩
  have X4 : Hid (Bk w4 w.heap.size 35 #[.int .i64 x0, .int .i64 x1, .int .i64 x2, .int .i64 x3, .int .i64 x4, .int .i64 x5, .int .i64 x6, .int .i64 x7]) := X3.out.below hb4 X3.out.lt
  have l4 : Hid (Below w.heap.size w w4) := l3.out.trans (hb4.mono l3.out.size)
  clear hb4 X3 l3
  go_wp2_with (with_reducible refine wpList_load_row rfl 35 (.tmp 3) rfl w.heap.size rfl 35 #[.int .i64 x0, .int .i64 x1, .int .i64 x2, .int .i64 x3, .int .i64 x4, .int .i64 x5, .int .i64 x6, .int .i64 x7] (0, 0) _ X4.out.heap arrUnder rfl HI.out ?_)
  refine (CS.out _).mono ?_
  rintro e w5 ⟨rfl, hb5⟩
  have l5 : Hid (Below w.heap.size w w5) := l4.out.trans (hb5.mono l4.out.size)
  clear hb5 X4 l4
  go_wp2
  go_ret
  exact ⟨rfl, l5.out⟩

set_option maxRecDepth 100000 in
set_option maxHeartbeats 4000000 in
theorem packs_core (x0 x1 x2 x3 x4 x5 x6 x7 p k n e0 pe : Int) (w : World) (t : Bool) (hw : Laid w) (he : rangesE [x0, x1, x2, x3, x4, x5, x6, x7] (-32767) 32767 = 0) (ht : (pe != 0) = t)
    (hB : ∀ W, Laid W → Calls Tryd.prog 46 #[.agg #[.int .i64 x0, .int .i64 x1, .int .i64 x2, .int .i64 x3, .int .i64 x4, .int .i64 x5, .int .i64 x6, .int .i64 x7], .int .i64 p, .int .i64 k] W fun e w' => e = .returned (.tuple #[.int .i64 n, .int .i64 e0]) ∧ Below W.heap.size W w')
    (hE : ∀ W, Calls Tryd.prog 50 #[.int .i64 p, .int .i64 k] W fun e w' => e = .returned (.int .i64 pe) ∧ W = w')
    (h1 : t = true → e0 = pe ∧ n = 0)
    (h2 : t = false → e0 = 0 ∧ ∀ W, Calls Tryd.prog 51 #[.agg #[.int .i64 x0, .int .i64 x1, .int .i64 x2, .int .i64 x3, .int .i64 x4, .int .i64 x5, .int .i64 x6, .int .i64 x7], .int .i64 p, .int .i64 k] W fun e w' => e = .returned (.int .i64 n) ∧ Below W.heap.size W w') :
    Calls Tryd.prog 9 #[.agg #[.int .i64 x0, .int .i64 x1, .int .i64 x2, .int .i64 x3, .int .i64 x4, .int .i64 x5, .int .i64 x6, .int .i64 x7], .int .i64 p, .int .i64 k] w fun e w' => e = .returned (.bool true) ∧ Below w.heap.size w w' := by
  have HW := Lib.hid hw
  have HBd := bnd_of_rangesE _ he
  have CB := Lib.hid hB
  have CE := Lib.hid hE
  have H1 := Lib.hid h1
  have H2 := Lib.hid h2
  have CS : Hid (∀ W, Calls Tryd.prog 48 #[.agg #[.int .i64 x0, .int .i64 x1, .int .i64 x2, .int .i64 x3, .int .i64 x4, .int .i64 x5, .int .i64 x6, .int .i64 x7]] W fun e w' => e = .returned (.int .i64 0) ∧ Below W.heap.size W w') := fun W => by have := samplesErr_any _ _ W (is8_lit x0 x1 x2 x3 x4 x5 x6 x7); rw [he] at this; exact this
  have hlen := (packT_bd [x0, x1, x2, x3, x4, x5, x6, x7] HBd).2
  have CP0 : ∀ W, Laid W → Calls Tryd.prog 47 #[.agg #[.int .i64 x0, .int .i64 x1, .int .i64 x2, .int .i64 x3, .int .i64 x4, .int .i64 x5, .int .i64 x6, .int .i64 x7]] W fun e w' => ∃ v, e = .returned (.tuple #[v, .int .i64 0]) ∧ w'.ownsRow W.heap.size 3 1 v (packT [x0, x1, x2, x3, x4, x5, x6, x7]).length ((packT [x0, x1, x2, x3, x4, x5, x6, x7]).map (Value.int .i64)) ∧ Below W.heap.size W w' := fun W h => packed_ok _ _ W h (is8_lit x0 x1 x2 x3 x4 x5 x6 x7) he
  have CR0 : ∀ W, Calls Tryd.prog 49 #[.agg #[.int .i64 x0, .int .i64 x1, .int .i64 x2, .int .i64 x3, .int .i64 x4, .int .i64 x5, .int .i64 x6, .int .i64 x7]] W fun e w' => ∃ v, e = .returned v ∧ w'.ownsRow W.heap.size 3 1 v (packT [x0, x1, x2, x3, x4, x5, x6, x7]).length ((packT [x0, x1, x2, x3, x4, x5, x6, x7]).map (Value.int .i64)) ∧ Below W.heap.size W w' := fun W => refPackedOf_any x0 x1 x2 x3 x4 x5 x6 x7 W HBd
  obtain ⟨ps, hps⟩ : ∃ ps, packT [x0, x1, x2, x3, x4, x5, x6, x7] = ps := ⟨_, rfl⟩
  rw [hps] at CP0 CR0 hlen
  obtain ⟨m, hm⟩ : ∃ m, ps.length = m := ⟨_, rfl⟩
  rw [hm] at CP0 CR0 hlen
  have CP := Lib.hid CP0
  have CR := Lib.hid CR0
  have HI := Lib.hid (arrInfoL x0 x1 x2 x3 x4 x5 x6 x7)
  have X0 : Hid (Bk (w.alloc (.cells #[.int .i64 x0, .int .i64 x1, .int .i64 x2, .int .i64 x3, .int .i64 x4, .int .i64 x5, .int .i64 x6, .int .i64 x7] 35)) w.heap.size 35 #[.int .i64 x0, .int .i64 x1, .int .i64 x2, .int .i64 x3, .int .i64 x4, .int .i64 x5, .int .i64 x6, .int .i64 x7]) := Bk.new _ _ _
  have l0 : Hid (Below w.heap.size w (w.alloc (.cells #[.int .i64 x0, .int .i64 x1, .int .i64 x2, .int .i64 x3, .int .i64 x4, .int .i64 x5, .int .i64 x6, .int .i64 x7] 35))) := (Below.refl _ _).alloc (Nat.le_refl _) _
  clear hw he hB hE h1 h2 CP0 CR0 HBd hps hm
  go_enter Tryd.func9, Tryd.ntmps9
  go_wp2_with fail
  refine (awake_any _ (HW.out.later l0.out)).mono ?_
  rintro e w2 ⟨rfl, hb2⟩
  have X2 : Hid (Bk w2 w.heap.size 35 #[.int .i64 x0, .int .i64 x1, .int .i64 x2, .int .i64 x3, .int .i64 x4, .int .i64 x5, .int .i64 x6, .int .i64 x7]) := X0.out.below hb2 (by simp)
  have l2 : Hid (Below w.heap.size w w2) := l0.out.trans (hb2.mono (by simp))
  clear hb2 X0 l0
  go_wp2_with (with_reducible refine wpList_load_row rfl 35 (.tmp 3) rfl w.heap.size rfl 35 #[.int .i64 x0, .int .i64 x1, .int .i64 x2, .int .i64 x3, .int .i64 x4, .int .i64 x5, .int .i64 x6, .int .i64 x7] (0, 0) _ X2.out.heap arrUnder rfl HI.out ?_)
  refine (CB.out _ (HW.out.later l2.out)).mono ?_
  rintro e w3 ⟨rfl, hb3⟩
  have X3 : Hid (Bk w3 w.heap.size 35 #[.int .i64 x0, .int .i64 x1, .int .i64 x2, .int .i64 x3, .int .i64 x4, .int .i64 x5, .int .i64 x6, .int .i64 x7]) := X2.out.below hb3 X2.out.lt
  have l3 : Hid (Below w.heap.size w w3) := l2.out.trans (hb3.mono l2.out.size)
  clear hb3 X2 l2
  go_wp2_with (with_reducible refine wpList_load_row rfl 35 (.tmp 3) rfl w.heap.size rfl 35 #[.int .i64 x0, .int .i64 x1, .int .i64 x2, .int .i64 x3, .int .i64 x4, .int .i64 x5, .int .i64 x6, .int .i64 x7] (0, 0) _ X3.out.heap arrUnder rfl HI.out ?_)
  refine (CP.out _ (HW.out.later l3.out)).mono ?_
  rintro e w4 ⟨v4, rfl, ho4, hb4⟩
  have X4 : Hid (Bk w4 w.heap.size 35 #[.int .i64 x0, .int .i64 x1, .int .i64 x2, .int .i64 x3, .int .i64 x4, .int .i64 x5, .int .i64 x6, .int .i64 x7]) := X3.out.below hb4 X3.out.lt
  have l4 : Hid (Below w.heap.size w w4) := l3.out.trans (hb4.mono l3.out.size)
  obtain ⟨A, c, rfl, hnc4, hr4⟩ := rd_of_own ho4
  have R4 := Lib.hid hr4
  clear hb4 X3 l3 ho4 hr4
  go_wp2_with (with_reducible refine wpList_load_row rfl 35 (.tmp 3) rfl w.heap.size rfl 35 #[.int .i64 x0, .int .i64 x1, .int .i64 x2, .int .i64 x3, .int .i64 x4, .int .i64 x5, .int .i64 x6, .int .i64 x7] (0, 0) _ X4.out.heap arrUnder rfl HI.out ?_)
  refine (CS.out _).mono ?_
  rintro e w5 ⟨rfl, hb5⟩
  have X5 : Hid (Bk w5 w.heap.size 35 #[.int .i64 x0, .int .i64 x1, .int .i64 x2, .int .i64 x3, .int .i64 x4, .int .i64 x5, .int .i64 x6, .int .i64 x7]) := X4.out.below hb5 X4.out.lt
  have l5 : Hid (Below w.heap.size w w5) := l4.out.trans (hb5.mono l4.out.size)
  have R5 := Lib.hid (R4.out.below hb5)
  clear hb5 X4 l4 R4
  have c0 : w5.cell? ⟨w.heap.size, 0, none⟩ = some (.int .i64 x0) := by rw [X5.out.cell]; rfl
  have c1 : w5.cell? ⟨w.heap.size, 1, none⟩ = some (.int .i64 x1) := by rw [X5.out.cell]; rfl
  have c2 : w5.cell? ⟨w.heap.size, 2, none⟩ = some (.int .i64 x2) := by rw [X5.out.cell]; rfl
  have c3 : w5.cell? ⟨w.heap.size, 3, none⟩ = some (.int .i64 x3) := by rw [X5.out.cell]; rfl
  have c4 : w5.cell? ⟨w.heap.size, 4, none⟩ = some (.int .i64 x4) := by rw [X5.out.cell]; rfl
  have c5 : w5.cell? ⟨w.heap.size, 5, none⟩ = some (.int .i64 x5) := by rw [X5.out.cell]; rfl
  have c6 : w5.cell? ⟨w.heap.size, 6, none⟩ = some (.int .i64 x6) := by rw [X5.out.cell]; rfl
  have c7 : w5.cell? ⟨w.heap.size, 7, none⟩ = some (.int .i64 x7) := by rw [X5.out.cell]; rfl
  go_wp2_with fail
  refine (CR.out _).mono ?_
  rintro e w6 ⟨v6, rfl, ho6, hb6⟩
  have X6 : Hid (Bk w6 w.heap.size 35 #[.int .i64 x0, .int .i64 x1, .int .i64 x2, .int .i64 x3, .int .i64 x4, .int .i64 x5, .int .i64 x6, .int .i64 x7]) := X5.out.below hb6 X5.out.lt
  have l6 : Hid (Below w.heap.size w w6) := l5.out.trans (hb6.mono l5.out.size)
  have R6 := Lib.hid (R5.out.below hb6)
  obtain ⟨A2, d2, rfl, hnc6, hr6⟩ := rd_of_own ho6
  have S6 := Lib.hid hr6
  clear hb6 X5 l5 R5 ho6 hr6 c0 c1 c2 c3 c4 c5 c6 c7
  go_wp2_with fail
  refine (ints_any _ _ _ _ _ _ ps ps _ R6.out S6.out (by omega) (by omega)).mono ?_
  rintro e w7 ⟨rfl, kk, rfl⟩
  go_wp2_with fail
  refine (CE.out _).mono ?_
  rintro e w8 ⟨rfl, rfl⟩
  have X8 : Hid (Bk (w6.drewN kk) w.heap.size 35 #[.int .i64 x0, .int .i64 x1, .int .i64 x2, .int .i64 x3, .int .i64 x4, .int .i64 x5, .int .i64 x6, .int .i64 x7]) := X6.out.drewN kk
  have l8 : Hid (Below w.heap.size w (w6.drewN kk)) := blw_drewN l6.out kk
  clear X6 l6 R6 S6
  cases t
  · obtain ⟨he0, C9⟩ := H2.out rfl
    subst he0
    have C9 := Lib.hid C9
    have c0 : (w6.drewN kk).cell? ⟨w.heap.size, 0, none⟩ = some (.int .i64 x0) := by rw [X8.out.cell]; rfl
    have c1 : (w6.drewN kk).cell? ⟨w.heap.size, 1, none⟩ = some (.int .i64 x1) := by rw [X8.out.cell]; rfl
    have c2 : (w6.drewN kk).cell? ⟨w.heap.size, 2, none⟩ = some (.int .i64 x2) := by rw [X8.out.cell]; rfl
    have c3 : (w6.drewN kk).cell? ⟨w.heap.size, 3, none⟩ = some (.int .i64 x3) := by rw [X8.out.cell]; rfl
    have c4 : (w6.drewN kk).cell? ⟨w.heap.size, 4, none⟩ = some (.int .i64 x4) := by rw [X8.out.cell]; rfl
    have c5 : (w6.drewN kk).cell? ⟨w.heap.size, 5, none⟩ = some (.int .i64 x5) := by rw [X8.out.cell]; rfl
    have c6 : (w6.drewN kk).cell? ⟨w.heap.size, 6, none⟩ = some (.int .i64 x6) := by rw [X8.out.cell]; rfl
    have c7 : (w6.drewN kk).cell? ⟨w.heap.size, 7, none⟩ = some (.int .i64 x7) := by rw [X8.out.cell]; rfl
    go_wp2_with fail
    refine (C9.out _).mono ?_
    rintro e w9 ⟨rfl, hb9⟩
    have l9 : Hid (Below w.heap.size w w9) := l8.out.trans (hb9.mono l8.out.size)
    clear hb9 X8 l8 c0 c1 c2 c3 c4 c5 c6 c7
    go_wp2
    go_ret
    exact ⟨rfl, l9.out⟩
  · obtain ⟨he0, hn0⟩ := H1.out rfl
    subst he0 hn0
    go_wp2
    go_ret
    exact ⟨rfl, l8.out⟩

theorem packs_walk (x0 x1 x2 x3 x4 x5 x6 x7 p k : Int) (w : World) (hw : Laid w) :
    Calls Tryd.prog 9 #[.agg #[.int .i64 x0, .int .i64 x1, .int .i64 x2, .int .i64 x3, .int .i64 x4, .int .i64 x5, .int .i64 x6, .int .i64 x7], .int .i64 p, .int .i64 k] w fun e w' => e = .returned (.bool true) ∧ Below w.heap.size w w' := by
  by_cases he : rangesE [x0, x1, x2, x3, x4, x5, x6, x7] (-32767) 32767 = 0
  · by_cases hp : parE p k = 0
    · have hb : (0 ≤ p ∧ p ≤ 2) ∧ (0 ≤ k ∧ k ≤ 17) := by
        unfold parE inB at hp
        simp at hp
        omega
      obtain ⟨q, rfl⟩ : ∃ q : Nat, p = q := Int.eq_ofNat_of_zero_le hb.1.1
      obtain ⟨j, rfl⟩ : ∃ j : Nat, k = j := Int.eq_ofNat_of_zero_le hb.2.1
      exact packs_core x0 x1 x2 x3 x4 x5 x6 x7 q j (bitsF (foldeds [x0, x1, x2, x3, x4, x5, x6, x7] q) j) 0 0 w false hw he rfl (fun W h => bitsTail x0 x1 x2 x3 x4 x5 x6 x7 q j W h (by omega) (by omega) he) (fun W => by have := parametersErr_any (q : Int) j W; rw [hp] at this; exact this) (fun h => by cases h)
        (fun _ => ⟨rfl, fun W => refBitsFor_any x0 x1 x2 x3 x4 x5 x6 x7 q j W (by omega) (by omega) (bnd_of_rangesE _ he)⟩)
    · have h2 : parE p k = 2 := by unfold parE at hp ⊢; split at hp <;> simp_all
      have hE : bitsE [x0, x1, x2, x3, x4, x5, x6, x7] p k = 2 := by
        unfold bitsE
        rw [he]
        unfold parE at h2
        unfold rangeE
        cases h1 : inB p 0 2 <;> cases h3 : inB k 0 17 <;> simp_all [firstE]
      exact packs_core x0 x1 x2 x3 x4 x5 x6 x7 p k 0 2 2 w true hw he rfl (fun W _ => bitsHead x0 x1 x2 x3 x4 x5 x6 x7 p k 2 W hE (by omega)) (fun W => by have := parametersErr_any p k W; rw [h2] at this; exact this) (fun _ => ⟨rfl, rfl⟩) (fun h => by cases h)
  · exact packs_err x0 x1 x2 x3 x4 x5 x6 x7 p k w hw he

end Go.Proofs.YtepjnkmmielamaaDoor
