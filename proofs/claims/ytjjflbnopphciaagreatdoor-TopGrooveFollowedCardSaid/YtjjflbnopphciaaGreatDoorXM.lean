import Derived.Test.YtjjflbnopphciaaGreatDoorXG
import Derived.Test.YtjjflbnopphciaaGreatDoorXE
import Derived.Test.YtjjflbnopphciaaGreatDoorFW0
import Derived.Test.YtjjflbnopphciaaGreatDoorXL
import Derived.BigQuiet
import Derived.Deep.QuietTactic
import Derived.Test.YtjjflbnopphciaaGreatDoorXI
namespace Go.Proofs.YtjjflbnopphciaaGreatDoor
open Go.RowKit

end Go.Proofs.YtjjflbnopphciaaGreatDoor

namespace Go.Proofs.YtjjflbnopphciaaGreatDoor
open Go.RowKit

/-- A slice of pairs of the call's own. -/
def RdO (w : World) (A : Option Addr) (n : Nat) (ps : List (Int × Int)) : Prop := ps.length = n ∧ (0 < n → ∃ g, A = some ⟨g, 0, none⟩ ∧ RdR w g n ps)
theorem RdO.below {w w' : World} {A : Option Addr} {n : Nat} {ps : List (Int × Int)} (h : RdO w A n ps) (hb : Below w.heap.size w w') : RdO w' A n ps :=
  ⟨h.1, fun h0 => by obtain ⟨g, e, hr⟩ := h.2 h0; exact ⟨g, e, hr.below hb⟩⟩
theorem rdO_own {w : World} {base : Nat} {t : TypeId} {v : Value} {n : Nat} {ps : List (Int × Int)} (h : w.ownsRow base t 2 v n (pairCells ps)) (hl : ps.length = n) :
    ∃ A c, v = .slice A n c ∧ RdO w A n ps ∧ (A = none → n = 0 ∧ c = 0) := by
  have h2 := h.2
  rcases h2 with ⟨e, h0⟩ | ⟨g, cap, cur, e, _⟩
  · subst h0
    exact ⟨none, 0, e, ⟨hl, fun h => absurd h (by omega)⟩, fun _ => ⟨rfl, rfl⟩⟩
  · subst e
    exact ⟨_, cap, rfl, ⟨hl, fun _ => ⟨g, rfl, rdR_of_own h hl⟩⟩, fun h => by cases h⟩
theorem RdO.toP {w : World} {A : Option Addr} {n : Nat} {ps : List (Int × Int)} (h : RdO w A n ps) : RdP w A n ps := by
  refine ⟨h.1, fun h0 => ?_⟩
  obtain ⟨g, e, hr⟩ := h.2 h0
  refine ⟨⟨g, 0, none⟩, e, hr.2.1 h0, fun j hj => ?_⟩
  rw [Deep.add_add, addOff, addOff]
  exact hr.2.2 j hj

theorem wallsF_ok : ∀ {ws : List (Int × Int)}, wallsF ws = 0 → ∀ p ∈ ws, wallE p = 0
  | [], _, p, hp => by cases hp
  | q :: ws, h, p, hp => by
    unfold wallsF at h
    by_cases h0 : wallE q = 0
    · rw [if_pos h0] at h
      rcases List.mem_cons.1 hp with rfl | h1
      · exact h0
      · exact wallsF_ok h p h1
    · rw [if_neg h0] at h; exact absurd h h0
theorem wallsE_ok {ws : List (Int × Int)} (h : wallsE ws = 0) : ws.length ≤ 200 ∧ ∀ p ∈ ws, wallE p = 0 := by
  unfold wallsE at h
  by_cases h0 : 200 < ws.length
  · rw [if_pos h0] at h; omega
  · rw [if_neg h0] at h; exact ⟨by omega, wallsF_ok h⟩
theorem back_one {p : Int × Int} (h : wallE p = 0) : matE (matP p) = 0 ∧ wlsP (matP p) = p := by
  have hk := wallE_ok h
  obtain ⟨l, r⟩ := p
  dsimp only at hk
  have e1 : (l + r - (r - l)) / 2 = l := by omega
  have e2 : (l + r + (r - l)) / 2 = r := by omega
  constructor
  · unfold matE matP
    dsimp only
    rw [e1, e2, if_pos (by simp [fromB]; omega), if_pos (by omega), if_neg (by omega), if_pos (by simp [fromB]; omega)]
  · unfold wlsP matP
    dsimp only
    rw [e1, e2]
theorem back_all : ∀ {ws : List (Int × Int)}, (∀ p ∈ ws, wallE p = 0) → matsF (ws.map matP) = 0 ∧ (ws.map matP).map wlsP = ws
  | [], _ => ⟨rfl, rfl⟩
  | p :: ws, h => by
    obtain ⟨h1, h2⟩ := back_one (h p (List.mem_cons_self ..))
    obtain ⟨h3, h4⟩ := back_all (ws := ws) fun q hq => h q (List.mem_cons_of_mem _ hq)
    constructor
    · show (if matE (matP p) = 0 then matsF (ws.map matP) else _) = 0
      rw [if_pos h1, h3]
    · show wlsP (matP p) :: (ws.map matP).map wlsP = _
      rw [h2, h4]
theorem back_ok {ws : List (Int × Int)} (h : wallsE ws = 0) : matsE (matL ws) = 0 ∧ wlsL (matL ws) = ws ∧ matL ws = ws.map matP ∧ widL ws = ws.map widP := by
  obtain ⟨hl, ha⟩ := wallsE_ok h
  obtain ⟨h1, h2⟩ := back_all ha
  have e : matL ws = ws.map matP := by unfold matL; rw [if_pos h]
  have e0 : matsE (matL ws) = 0 := by unfold matsE; rw [e, List.length_map, if_neg (by omega), h1]
  exact ⟨e0, by unfold wlsL; rw [if_pos e0, e, h2], e, by unfold widL; rw [if_pos h]⟩
theorem map_at {α β : Type} (f : α → β) (l : List α) (d : α) (d' : β) (k : Nat) (h : k < l.length) : (l.map f).getD k d' = f (l.getD k d) := by
  simp [List.getD_eq_getElem?_getD, List.getElem?_eq_getElem h]

end Go.Proofs.YtjjflbnopphciaaGreatDoor

namespace Go.Proofs.YtjjflbnopphciaaGreatDoor
open Go.RowKit

theorem v_back : matsE [(11, 5)] = 0 ∧ wlsL [(11, 5)] = [(3, 8)] := by decide +kernel
theorem ex_walls (w : World) :
    Calls Tryz.prog 43 #[.slice (some ⟨w.heap.size, 0, none⟩) 1 1] (w.alloc (.cells #[.int .i64 11, .int .i64 5] 86)) fun e w' => (∃ g c, e = .returned (.tuple #[.slice (some ⟨g, 0, none⟩) 1 c, .int .i64 0]) ∧ w'.cell? ⟨g, 0, none⟩ = some (.int .i64 3) ∧ w'.cell? ⟨g, 1, none⟩ = some (.int .i64 8)) ∧ Below w.heap.size w w' := by
  refine (WallsOf_any w.heap.size 1 1 [(11, 5)] _ ?_ (by omega)).mono ?_
  · refine ⟨rfl, fun _ => by simp, fun j hj => ?_⟩
    obtain rfl : j = 0 := by omega
    exact ⟨by simp [go_sem], by simp [go_sem]⟩
  rintro e w' ⟨⟨v, rfl, ho⟩, hb⟩
  rw [v_back.1]
  rw [v_back.2] at ho
  obtain ⟨g, c, rfl⟩ := ownsRow_succ (k := 0) ho
  refine ⟨⟨g, c, rfl, ?_, ?_⟩, ((Below.refl _ w).alloc (Nat.le_refl _) _).trans (hb.mono (by simp))⟩
  · have := ho.cells (g := g) rfl 0 (.int .i64 3) rfl
    rwa [addOff] at this
  · have := ho.cells (g := g) rfl 1 (.int .i64 8) rfl
    rwa [addOff] at this

set_option maxRecDepth 100000 in
set_option maxHeartbeats 2000000 in
theorem shown_any (w : World) :
    Calls Tryz.prog 14 #[] w fun e w' => e = .returned (.bool true) ∧ Below w.heap.size w w' := by
  go_enter Tryz.func14, Tryz.ntmps14
  go_wp2_with fail
  refine (Task_any _).mono ?_
  rintro e w3 ⟨⟨B3, rfl, hg3⟩, hb3⟩
  have l3 := Lib.hid hb3
  have C3 := Lib.hid (ex_best B3 w3 hg3)
  clear hg3 hb3
  go_wp2_with fail
  refine C3.out.mono ?_
  rintro e w4 ⟨⟨A4, c4, rfl, hr4⟩, hb4⟩
  have l4 := Lib.hid (l3.out.trans (hb4.mono l3.out.size))
  have S4 := Lib.hid hr4
  clear hr4 hb4 l3 C3
  have C5 := Lib.hid (ex_walls w4)
  go_wp2_with fail
  refine C5.out.mono ?_
  rintro e w8 ⟨⟨g8, c8, rfl, k0, k1⟩, hb8⟩
  have l8 := Lib.hid (l4.out.trans (hb8.mono l4.out.size))
  have S8 := Lib.hid (S4.out.below hb8)
  have hz8 : g8 < w8.heap.size := World.block_lt_of_cell? _ _ k0
  have K0 := Lib.hid k0
  have K1 := Lib.hid k1
  clear k0 k1 hb8 l4 S4 C5
  have lb10 : Below w8.heap.size w8 (w8.alloc (.cells #[.int .i64 1, .int .i64 2, .int .i64 1] 3)) := (Below.refl _ _).alloc (Nat.le_refl _) _
  have lit10 : RdI (w8.alloc (.cells #[.int .i64 1, .int .i64 2, .int .i64 1] 3)) (some ⟨w8.heap.size, 0, none⟩) 3 [1, 2, 1] := rd_of_bk (xs := [1, 2, 1]) (show Bk (w8.alloc (.cells #[.int .i64 1, .int .i64 2, .int .i64 1] 3)) w8.heap.size 3 (iArr [1, 2, 1]) from Bk.new _ _ _) rfl
  have CI10 := Lib.hid (ints_any _ _ 3 3 c4 3 [1, 2, 1] [1, 2, 1] (w8.alloc (.cells #[.int .i64 1, .int .i64 2, .int .i64 1] 3)) (S8.out.below lb10) lit10 (by omega) (by omega))
  have LB10 := Lib.hid lb10
  clear lb10 lit10
  go_wp2_with fail
  refine CI10.out.mono ?_
  rintro e w' ⟨rfl, kk10, rfl⟩
  have hB10 : Below w8.heap.size w8 ((w8.alloc (.cells #[.int .i64 1, .int .i64 2, .int .i64 1] 3)).drewN kk10) := belowDrewN LB10.out kk10
  obtain ⟨w10, hw10⟩ : ∃ W, (w8.alloc (.cells #[.int .i64 1, .int .i64 2, .int .i64 1] 3)).drewN kk10 = W := ⟨_, rfl⟩
  rw [hw10] at hB10 ⊢
  have l10 := Lib.hid (l8.out.trans (hB10.mono l8.out.size))
  have k0 := (hB10.cell (p := ⟨g8, 0, none⟩) (World.block_lt_of_cell? _ _ K0.out)).trans K0.out
  have k1 := (hB10.cell (p := ⟨g8, 1, none⟩) (World.block_lt_of_cell? _ _ K1.out)).trans K1.out
  clear hw10 hB10 CI10 LB10 S8 K0 K1 l8
  go_wp2
  go_ret
  exact ⟨rfl, l10.out⟩

end Go.Proofs.YtjjflbnopphciaaGreatDoor

namespace Go.Proofs.YtjjflbnopphciaaGreatDoor
open Go.RowKit

/-- A groove on a disc as eleven cells. -/
abbrev gdRow (R : Nat → Int) (L b c : Int) : Array Value := #[.int .i64 (R 0), .int .i64 (R 1), .int .i64 (R 2), .int .i64 (R 3), .int .i64 (R 4), .int .i64 (R 5), .int .i64 (R 6), .int .i64 (R 7), .int .i64 L, .int .i64 b, .int .i64 c]
theorem gdRow_at (R : Nat → Int) (L b c : Int) (k : Nat) (h : k < 8) : (gdRow R L b c)[k]? = some (.int .i64 (R k)) := by
  rcases (show k = 0 ∨ k = 1 ∨ k = 2 ∨ k = 3 ∨ k = 4 ∨ k = 5 ∨ k = 6 ∨ k = 7 by omega) with rfl | rfl | rfl | rfl | rfl | rfl | rfl | rfl <;> rfl
theorem quietG {P : Program} {f : FuncId} {args : Array Value} {w : World} {n : Nat} {v : Value}
    (h : Calls P f args (w.drewN n) fun e w' => e = .returned v ∧ w.drewN n = w') : Calls P f args (w.drewN n) fun e w'' => e = .returned v ∧ ∃ m, w'' = w.drewN m :=
  h.mono fun _ _ ⟨he, hm⟩ => ⟨he, n, hm.symm⟩
theorem below_dN (w : World) (k : Nat) : Below w.heap.size w (w.drewN k) := ⟨rfl, rfl, rfl, Nat.le_refl _, fun i hi => rfl⟩
theorem notFrom {lo hi n : Int} (h : ¬ (lo ≤ n ∧ n ≤ hi)) : fromB lo hi [n] = false := by
  rw [Bool.eq_false_iff]; intro e; exact h (fromB_one.1 e)


set_option maxRecDepth 100000 in
set_option maxHeartbeats 4000000 in
theorem tgf_e1 (R : Nat → Int) (L b c : Int) (w : World) (h0 : ¬ (1 ≤ L ∧ L ≤ 255)) :
    Calls Tryz.prog 4 #[.agg (gdRow R L b c)] w fun e w' => e = .returned (.bool true) ∧ Below w.heap.size w w' := by
  obtain ⟨w1, hw1⟩ : ∃ W, w.alloc (.cells (gdRow R L b c) 37) = W := ⟨_, rfl⟩
  have B1 : Hid (Below w.heap.size w w1) := by show Below _ _ _; rw [← hw1]; exact (Below.refl _ _).alloc (Nat.le_refl _) _
  have K1 : Hid (Bk w1 w.heap.size 37 (gdRow R L b c)) := by show Bk _ _ _ _; rw [← hw1]; exact Bk.new _ _ _
  have CS := Lib.hid (shown_any w1)
  have HW1 := Lib.hid hw1
  have C0 : Hid (∀ W, Calls Tryz.prog 15 #[.int .i64 L, .int .i64 1, .int .i64 255] W fun e w' => e = .returned (.bool false) ∧ W = w') := fun W => by have h := within_any L 1 255 W; rw [notFrom h0] at h; exact h
  clear hw1 h0
  go_enter Tryz.func4, Tryz.ntmps4
  go_wp2_with fail
  rw [show w.alloc (.cells #[.int .i64 (R 0), .int .i64 (R 1), .int .i64 (R 2), .int .i64 (R 3), .int .i64 (R 4), .int .i64 (R 5), .int .i64 (R 6), .int .i64 (R 7), .int .i64 L, .int .i64 b, .int .i64 c] 37) = w1 from HW1.out]
  refine CS.out.mono ?_
  rintro e w2 ⟨rfl, hb2⟩
  have B2 := Lib.hid (B1.out.trans (hb2.mono B1.out.size))
  have K2 : Hid (Bk w2 w.heap.size 37 (gdRow R L b c)) := K1.out.later hb2
  have c8 : w2.cell? ⟨w.heap.size, 8, none⟩ = some (.int .i64 L) := by rw [K2.out.cell]; rfl
  have c9 : w2.cell? ⟨w.heap.size, 9, none⟩ = some (.int .i64 b) := by rw [K2.out.cell]; rfl
  have c10 : w2.cell? ⟨w.heap.size, 10, none⟩ = some (.int .i64 c) := by rw [K2.out.cell]; rfl
  clear hb2 B1 K1 CS HW1
  go_wp2_with (first | (go_at_call 15; (with_reducible refine (C0.out _).mono ?_); rintro e w' ⟨rfl, rfl⟩))
  go_ret
  exact ⟨rfl, B2.out⟩

set_option maxRecDepth 100000 in
set_option maxHeartbeats 4000000 in
theorem tgf_e2 (R : Nat → Int) (L b c : Int) (w : World) (h0 : 1 ≤ L ∧ L ≤ 255) (h1 : ¬ (0 ≤ b ∧ b ≤ 1000)) :
    Calls Tryz.prog 4 #[.agg (gdRow R L b c)] w fun e w' => e = .returned (.bool true) ∧ Below w.heap.size w w' := by
  obtain ⟨w1, hw1⟩ : ∃ W, w.alloc (.cells (gdRow R L b c) 37) = W := ⟨_, rfl⟩
  have B1 : Hid (Below w.heap.size w w1) := by show Below _ _ _; rw [← hw1]; exact (Below.refl _ _).alloc (Nat.le_refl _) _
  have K1 : Hid (Bk w1 w.heap.size 37 (gdRow R L b c)) := by show Bk _ _ _ _; rw [← hw1]; exact Bk.new _ _ _
  have CS := Lib.hid (shown_any w1)
  have HW1 := Lib.hid hw1
  have C0 : Hid (∀ W, Calls Tryz.prog 15 #[.int .i64 L, .int .i64 1, .int .i64 255] W fun e w' => e = .returned (.bool true) ∧ W = w') := fun W => by have h := within_any L 1 255 W; rw [fromB_one.2 h0] at h; exact h
  have C1 : Hid (∀ W, Calls Tryz.prog 15 #[.int .i64 b, .int .i64 0, .int .i64 1000] W fun e w' => e = .returned (.bool false) ∧ W = w') := fun W => by have h := within_any b 0 1000 W; rw [notFrom h1] at h; exact h
  clear hw1 h0 h1
  go_enter Tryz.func4, Tryz.ntmps4
  go_wp2_with fail
  rw [show w.alloc (.cells #[.int .i64 (R 0), .int .i64 (R 1), .int .i64 (R 2), .int .i64 (R 3), .int .i64 (R 4), .int .i64 (R 5), .int .i64 (R 6), .int .i64 (R 7), .int .i64 L, .int .i64 b, .int .i64 c] 37) = w1 from HW1.out]
  refine CS.out.mono ?_
  rintro e w2 ⟨rfl, hb2⟩
  have B2 := Lib.hid (B1.out.trans (hb2.mono B1.out.size))
  have K2 : Hid (Bk w2 w.heap.size 37 (gdRow R L b c)) := K1.out.later hb2
  have c8 : w2.cell? ⟨w.heap.size, 8, none⟩ = some (.int .i64 L) := by rw [K2.out.cell]; rfl
  have c9 : w2.cell? ⟨w.heap.size, 9, none⟩ = some (.int .i64 b) := by rw [K2.out.cell]; rfl
  have c10 : w2.cell? ⟨w.heap.size, 10, none⟩ = some (.int .i64 c) := by rw [K2.out.cell]; rfl
  clear hb2 B1 K1 CS HW1
  go_wp2_with (first | (go_at_call 15; (with_reducible refine (C0.out _).mono ?_); rintro e w' ⟨rfl, rfl⟩) | (go_at_call 15; (with_reducible refine (C1.out _).mono ?_); rintro e w' ⟨rfl, rfl⟩))
  go_ret
  exact ⟨rfl, B2.out⟩

set_option maxRecDepth 100000 in
set_option maxHeartbeats 4000000 in
theorem tgf_e3 (R : Nat → Int) (L b c : Int) (w : World) (h0 : 1 ≤ L ∧ L ≤ 255) (h1 : 0 ≤ b ∧ b ≤ 1000) (h7 : L ≤ 7 * b) :
    Calls Tryz.prog 4 #[.agg (gdRow R L b c)] w fun e w' => e = .returned (.bool true) ∧ Below w.heap.size w w' := by
  obtain ⟨w1, hw1⟩ : ∃ W, w.alloc (.cells (gdRow R L b c) 37) = W := ⟨_, rfl⟩
  have B1 : Hid (Below w.heap.size w w1) := by show Below _ _ _; rw [← hw1]; exact (Below.refl _ _).alloc (Nat.le_refl _) _
  have K1 : Hid (Bk w1 w.heap.size 37 (gdRow R L b c)) := by show Bk _ _ _ _; rw [← hw1]; exact Bk.new _ _ _
  have CS := Lib.hid (shown_any w1)
  have HW1 := Lib.hid hw1
  have C0 : Hid (∀ W, Calls Tryz.prog 15 #[.int .i64 L, .int .i64 1, .int .i64 255] W fun e w' => e = .returned (.bool true) ∧ W = w') := fun W => by have h := within_any L 1 255 W; rw [fromB_one.2 h0] at h; exact h
  have C1 : Hid (∀ W, Calls Tryz.prog 15 #[.int .i64 b, .int .i64 0, .int .i64 1000] W fun e w' => e = .returned (.bool true) ∧ W = w') := fun W => by have h := within_any b 0 1000 W; rw [fromB_one.2 h1] at h; exact h
  have ww : IntKind.i64.wrap (7 * b) = 7 * b := IntWalk.i64_in _ (by omega)
  clear hw1 h0 h1
  go_enter Tryz.func4, Tryz.ntmps4
  go_wp2_with fail
  rw [show w.alloc (.cells #[.int .i64 (R 0), .int .i64 (R 1), .int .i64 (R 2), .int .i64 (R 3), .int .i64 (R 4), .int .i64 (R 5), .int .i64 (R 6), .int .i64 (R 7), .int .i64 L, .int .i64 b, .int .i64 c] 37) = w1 from HW1.out]
  refine CS.out.mono ?_
  rintro e w2 ⟨rfl, hb2⟩
  have B2 := Lib.hid (B1.out.trans (hb2.mono B1.out.size))
  have K2 : Hid (Bk w2 w.heap.size 37 (gdRow R L b c)) := K1.out.later hb2
  have c8 : w2.cell? ⟨w.heap.size, 8, none⟩ = some (.int .i64 L) := by rw [K2.out.cell]; rfl
  have c9 : w2.cell? ⟨w.heap.size, 9, none⟩ = some (.int .i64 b) := by rw [K2.out.cell]; rfl
  have c10 : w2.cell? ⟨w.heap.size, 10, none⟩ = some (.int .i64 c) := by rw [K2.out.cell]; rfl
  clear hb2 B1 K1 CS HW1
  go_wp2_with (first | (go_at_call 15; (with_reducible refine (C0.out _).mono ?_); rintro e w' ⟨rfl, rfl⟩) | (go_at_call 15; (with_reducible refine (C1.out _).mono ?_); rintro e w' ⟨rfl, rfl⟩))
  go_ret
  exact ⟨rfl, B2.out⟩

set_option maxRecDepth 100000 in
set_option maxHeartbeats 4000000 in
theorem tgf_e4 (R : Nat → Int) (L b c : Int) (w : World) (h0 : 1 ≤ L ∧ L ≤ 255) (h1 : 0 ≤ b ∧ b ≤ 1000) (h2 : ¬ (-1 ≤ c ∧ c ≤ 6)) (h7 : ¬ L ≤ 7 * b) :
    Calls Tryz.prog 4 #[.agg (gdRow R L b c)] w fun e w' => e = .returned (.bool true) ∧ Below w.heap.size w w' := by
  obtain ⟨w1, hw1⟩ : ∃ W, w.alloc (.cells (gdRow R L b c) 37) = W := ⟨_, rfl⟩
  have B1 : Hid (Below w.heap.size w w1) := by show Below _ _ _; rw [← hw1]; exact (Below.refl _ _).alloc (Nat.le_refl _) _
  have K1 : Hid (Bk w1 w.heap.size 37 (gdRow R L b c)) := by show Bk _ _ _ _; rw [← hw1]; exact Bk.new _ _ _
  have CS := Lib.hid (shown_any w1)
  have HW1 := Lib.hid hw1
  have C0 : Hid (∀ W, Calls Tryz.prog 15 #[.int .i64 L, .int .i64 1, .int .i64 255] W fun e w' => e = .returned (.bool true) ∧ W = w') := fun W => by have h := within_any L 1 255 W; rw [fromB_one.2 h0] at h; exact h
  have C1 : Hid (∀ W, Calls Tryz.prog 15 #[.int .i64 b, .int .i64 0, .int .i64 1000] W fun e w' => e = .returned (.bool true) ∧ W = w') := fun W => by have h := within_any b 0 1000 W; rw [fromB_one.2 h1] at h; exact h
  have C2 : Hid (∀ W, Calls Tryz.prog 15 #[.int .i64 c, .int .i64 (-1), .int .i64 6] W fun e w' => e = .returned (.bool false) ∧ W = w') := fun W => by have h := within_any c (-1) 6 W; rw [notFrom h2] at h; exact h
  have ww : IntKind.i64.wrap (7 * b) = 7 * b := IntWalk.i64_in _ (by omega)
  clear hw1 h0 h1 h2
  go_enter Tryz.func4, Tryz.ntmps4
  go_wp2_with fail
  rw [show w.alloc (.cells #[.int .i64 (R 0), .int .i64 (R 1), .int .i64 (R 2), .int .i64 (R 3), .int .i64 (R 4), .int .i64 (R 5), .int .i64 (R 6), .int .i64 (R 7), .int .i64 L, .int .i64 b, .int .i64 c] 37) = w1 from HW1.out]
  refine CS.out.mono ?_
  rintro e w2 ⟨rfl, hb2⟩
  have B2 := Lib.hid (B1.out.trans (hb2.mono B1.out.size))
  have K2 : Hid (Bk w2 w.heap.size 37 (gdRow R L b c)) := K1.out.later hb2
  have c8 : w2.cell? ⟨w.heap.size, 8, none⟩ = some (.int .i64 L) := by rw [K2.out.cell]; rfl
  have c9 : w2.cell? ⟨w.heap.size, 9, none⟩ = some (.int .i64 b) := by rw [K2.out.cell]; rfl
  have c10 : w2.cell? ⟨w.heap.size, 10, none⟩ = some (.int .i64 c) := by rw [K2.out.cell]; rfl
  clear hb2 B1 K1 CS HW1
  go_wp2_with (first | (go_at_call 15; (with_reducible refine (C0.out _).mono ?_); rintro e w' ⟨rfl, rfl⟩) | (go_at_call 15; (with_reducible refine (C1.out _).mono ?_); rintro e w' ⟨rfl, rfl⟩) | (go_at_call 15; (with_reducible refine (C2.out _).mono ?_); rintro e w' ⟨rfl, rfl⟩))
  go_ret
  exact ⟨rfl, B2.out⟩
end Go.Proofs.YtjjflbnopphciaaGreatDoor

namespace Go.Proofs.YtjjflbnopphciaaGreatDoor

/-- Sums. -/
def sumTo (f : Nat → Int) : Nat → Int
  | 0 => 0
  | k + 1 => sumTo f k + f k
theorem sumTo_bd {f : Nat → Int} {b : Int} : ∀ {k : Nat}, (∀ i, i < k → 0 ≤ f i ∧ f i ≤ b) → 0 ≤ sumTo f k ∧ sumTo f k ≤ b * k
  | 0, _ => ⟨Int.le_refl _, by simp [sumTo]⟩
  | k + 1, h => by
    have ih := sumTo_bd (f := f) (k := k) fun i hi => h i (by omega)
    have h1 := h k (by omega)
    have e : b * ((k + 1 : Nat) : Int) = b * (k : Int) + b := by rw [Int.natCast_add, Int.mul_add]; simp
    show 0 ≤ sumTo f k + f k ∧ sumTo f k + f k ≤ b * ((k + 1 : Nat) : Int)
    rw [e]
    omega
theorem sumTo_congr {f g : Nat → Int} : ∀ {k : Nat}, (∀ i, i < k → f i = g i) → sumTo f k = sumTo g k
  | 0, _ => rfl
  | k + 1, h => by
    show sumTo f k + f k = sumTo g k + g k
    rw [sumTo_congr (k := k) fun i hi => h i (by omega), h k (by omega)]
def sumL (l : List Int) : Int := l.foldr (· + ·) 0
theorem sumL_append (a b : List Int) : sumL (a ++ b) = sumL a + sumL b := by
  induction a with
  | nil => simp [sumL]
  | cons x t ih => 
    show x + sumL (t ++ b) = x + sumL t + sumL b
    rw [ih]; omega
theorem sumL_perm {a b : List Int} (h : a.Perm b) : sumL a = sumL b := by
  induction h with
  | nil => rfl
  | cons x _ ih => show x + sumL _ = x + sumL _; rw [ih]
  | swap x y l => show y + (x + sumL l) = x + (y + sumL l); omega
  | trans _ _ h1 h2 => exact h1.trans h2
theorem sumTo_map (f : Nat → Int) : ∀ k, sumTo f k = sumL ((List.range k).map f)
  | 0 => rfl
  | k + 1 => by
    rw [List.range_succ, List.map_append, sumL_append, ← sumTo_map f k]
    show sumTo f k + f k = sumTo f k + (f k + 0)
    omega
theorem sumTo_flat (f : Nat → List Int) : ∀ k, sumTo (fun i => sumL (f i)) k = sumL ((List.range k).flatMap f)
  | 0 => rfl
  | k + 1 => by
    rw [List.range_succ, List.flatMap_append, sumL_append, ← sumTo_flat f k]
    show sumTo _ k + sumL (f k) = sumTo _ k + sumL (f k ++ [])
    rw [List.append_nil]
theorem map_getD_range (l : List Int) : (List.range l.length).map (fun i => l.getD i 0) = l := by
  apply List.ext_getElem
  · simp
  · intro i h1 h2
    simp [List.getD_eq_getElem?_getD, List.getElem?_eq_getElem h2]
theorem sumTo_list (l : List Int) : sumTo (fun i => l.getD i 0) l.length = sumL l := by
  rw [sumTo_map, map_getD_range]

/-- The points of a square, and of its rings. -/
def sqPts (q : Nat) : List (Int × Int) := (List.range (2 * q + 1)).flatMap fun y : Nat => (List.range (2 * q + 1)).map fun x : Nat => ((x : Int) - q, (y : Int) - q)
def rgPts (q : Nat) : List (Int × Int) := (List.range q).flatMap fun r => ringTo 0 0 (r + 1) 5
theorem pts_perm : ∀ q, q < 5 → ((0, 0) :: rgPts q).isPerm (sqPts q) = true := by decide +kernel
theorem ring_turn : ∀ r : Nat, r < 5 → ∀ i : Nat, i < 8 * r → (ringTo 0 0 r 5).getD ((i + 2 * r) % (8 * r)) (0, 0) = (-((ringTo 0 0 r 5).getD i (0, 0)).2, ((ringTo 0 0 r 5).getD i (0, 0)).1) := by decide +kernel
theorem ring_near : ∀ r : Nat, r < 5 → ∀ i : Nat, i < 8 * r → -(r : Int) ≤ ((ringTo 0 0 r 5).getD i (0, 0)).1 ∧ ((ringTo 0 0 r 5).getD i (0, 0)).1 ≤ r ∧ -(r : Int) ≤ ((ringTo 0 0 r 5).getD i (0, 0)).2 ∧ ((ringTo 0 0 r 5).getD i (0, 0)).2 ≤ r := by decide +kernel

/-- A turned image. -/
def trRow (q : Nat) (rows : List (List Int)) (y : Nat) : Nat → List Int
  | 0 => []
  | x + 1 => trRow q rows y x ++ [(rows.getD (2 * q - x) []).getD y 0]
theorem trRow_length (q : Nat) (rows : List (List Int)) (y : Nat) : ∀ x, (trRow q rows y x).length = x
  | 0 => rfl
  | x + 1 => by rw [trRow, List.length_append, trRow_length q rows y x]; rfl
theorem trRow_at (q : Nat) (rows : List (List Int)) (y : Nat) : ∀ {k x}, x < k → (trRow q rows y k).getD x 0 = (rows.getD (2 * q - x) []).getD y 0
  | k + 1, x, h => by
    rw [trRow, List.getD_eq_getElem?_getD]
    by_cases e : x < k
    · rw [List.getElem?_append_left (by rw [trRow_length]; exact e), ← List.getD_eq_getElem?_getD, trRow_at q rows y e]
    · obtain rfl : x = k := by omega
      rw [List.getElem?_append_right (by rw [trRow_length]; exact Nat.le_refl _), trRow_length, Nat.sub_self]
      rfl
def trTo (q : Nat) (rows : List (List Int)) (k : Nat) : List (List Int) := (List.range k).map fun y => trRow q rows y (2 * q + 1)
theorem trTo_length (q : Nat) (rows : List (List Int)) (k : Nat) : (trTo q rows k).length = k := by simp [trTo]
theorem trTo_succ (q : Nat) (rows : List (List Int)) (k : Nat) : trTo q rows (k + 1) = trTo q rows k ++ [trRow q rows k (2 * q + 1)] := by simp [trTo, List.range_succ]
theorem trTo_at (q : Nat) (rows : List (List Int)) {k y : Nat} (h : y < k) : (trTo q rows k).getD y [] = trRow q rows y (2 * q + 1) := by
  rw [List.getD_eq_getElem?_getD, trTo, List.getElem?_map, List.getElem?_range h]; rfl
def trd (q : Nat) (rows : List (List Int)) : List (List Int) := trTo q rows (2 * q + 1)
theorem pix_trd {q : Nat} {rows : List (List Int)} {x y : Nat} (hx : x < 2 * q + 1) (hy : y < 2 * q + 1) : pix (trd q rows) ((x : Int), (y : Int)) = pix rows ((y : Int), ((2 * q - x : Nat) : Int)) := by
  unfold pix trd
  dsimp only
  rw [Int.toNat_natCast, Int.toNat_natCast, Int.toNat_natCast, trTo_at q rows hy, trRow_at q rows y hx]
theorem pix_trd_at {q : Nat} {rows : List (List Int)} {a b : Int} (ha : -(q : Int) ≤ a ∧ a ≤ q) (hb : -(q : Int) ≤ b ∧ b ≤ q) : pix (trd q rows) ((q : Int) + a, (q : Int) + b) = pix rows ((q : Int) + b, (q : Int) - a) := by
  have e1 : (q : Int) + a = (((q : Int) + a).toNat : Int) := by omega
  have e2 : (q : Int) + b = (((q : Int) + b).toNat : Int) := by omega
  have e3 : (q : Int) - a = ((2 * q - ((q : Int) + a).toNat : Nat) : Int) := by omega
  rw [e3, e1, e2, pix_trd (by omega) (by omega)]
  congr 3 <;> omega
theorem ring_at (rows : List (List Int)) (q r : Nat) {i : Nat} (hi : i < 8 * r) : ((ringTo (q : Int) q r 5).map (pix rows)).getD i 0 = pix rows ((q : Int) + ((ringTo 0 0 r 5).getD i (0, 0)).1, (q : Int) + ((ringTo 0 0 r 5).getD i (0, 0)).2) := by
  have hl : i < (ringTo 0 0 r 5).length := by rw [ring_size]; exact hi
  rw [ring_shift, List.map_map, List.getD_eq_getElem?_getD, List.getElem?_map, List.getElem?_eq_getElem hl, List.getD_eq_getElem?_getD, List.getElem?_eq_getElem hl]
  rfl
theorem ring_same (rows : List (List Int)) (q r : Nat) (hr : 0 < r) (hq : r ≤ q) (hq4 : q < 5) {i : Nat} (hi : i < 8 * r) : ((ringTo (q : Int) q r 5).map (pix (trd q rows))).getD ((i + 2 * r) % (8 * r)) 0 = ((ringTo (q : Int) q r 5).map (pix rows)).getD i 0 := by
  have hj : (i + 2 * r) % (8 * r) < 8 * r := Nat.mod_lt _ (by omega)
  have hn := ring_near r (by omega) i hi
  rw [ring_at _ q r hj, ring_at _ q r hi, ring_turn r (by omega) i hi]
  dsimp only
  rw [pix_trd_at (by omega) (by omega)]
  congr 2
  omega

/-- The sums of the law. -/
def allS (q : Nat) (rows : List (List Int)) (k : Nat) : Int := sumTo (fun y => sumTo (fun x => (rows.getD y []).getD x 0) (2 * q + 1)) k
def rngS (q : Nat) (rows : List (List Int)) (k : Nat) : Int := sumTo (fun r => sumTo (fun i => ((ringTo (q : Int) q (r + 1) 5).map (pix rows)).getD i 0) (8 * (r + 1))) k
theorem rng_all (q : Nat) (hq : q < 5) (rows : List (List Int)) : rngS q rows q = allS q rows (2 * q + 1) - (rows.getD q []).getD q 0 := by
  have h1 : rngS q rows q = sumL ((rgPts q).map fun p => pix rows ((q : Int) + p.1, (q : Int) + p.2)) := by
    unfold rngS rgPts
    rw [List.map_flatMap, ← sumTo_flat]
    refine sumTo_congr fun r _ => ?_
    have e : 8 * (r + 1) = ((ringTo (q : Int) q (r + 1) 5).map (pix rows)).length := by rw [List.length_map, ring_size]
    rw [e, sumTo_list, ring_shift, List.map_map]
    rfl
  have h2 : allS q rows (2 * q + 1) = sumL ((sqPts q).map fun p => pix rows ((q : Int) + p.1, (q : Int) + p.2)) := by
    unfold allS sqPts
    rw [List.map_flatMap, ← sumTo_flat]
    refine sumTo_congr fun y _ => ?_
    rw [List.map_map, ← sumTo_map]
    refine sumTo_congr fun x _ => ?_
    show _ = pix rows ((q : Int) + ((x : Int) - q), (q : Int) + ((y : Int) - q))
    rw [show (q : Int) + ((x : Int) - q) = (x : Int) by omega, show (q : Int) + ((y : Int) - q) = (y : Int) by omega]
    unfold pix
    dsimp only
    rw [Int.toNat_natCast, Int.toNat_natCast]
  have h3 := (List.isPerm_iff.1 (pts_perm q hq)).map fun p => pix rows ((q : Int) + p.1, (q : Int) + p.2)
  have h4 := sumL_perm h3
  rw [h1, h2, ← h4]
  show _ = pix rows ((q : Int) + 0, (q : Int) + 0) + sumL _ - _
  rw [Int.add_zero]
  unfold pix
  dsimp only
  rw [Int.toNat_natCast]
  omega

end Go.Proofs.YtjjflbnopphciaaGreatDoor

