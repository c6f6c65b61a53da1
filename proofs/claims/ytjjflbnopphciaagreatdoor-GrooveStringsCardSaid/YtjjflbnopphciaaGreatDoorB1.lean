import Derived.Test.YtjjflbnopphciaaGreatDoorVA
import Derived.BigQuiet
import Derived.Deep.QuietTactic
import Derived.Maps.AppendAt
namespace Go.Proofs.YtjjflbnopphciaaGreatDoor
open Go.RowKit

/-- The error of positions. -/
def posE (xs : List Int) : Int := if 200 < xs.length then 8 else if fromB (-1000000) 1000000 xs = true then 0 else 2
set_option maxHeartbeats 1000000 in
theorem checkPositions_any (A : Option Addr) (n c : Nat) (xs : List Int) (w : World) (hr : RdI w A n xs) (hn : n ≤ 9223372036854775806) :
    Calls Tryz.prog 39 #[.slice A n c] w fun e w' => e = .returned (.int .i64 (posE xs)) ∧ w = w' := by
  have C := Lib.hid (areAtMost_any A n c xs 1000000 w hr hn (by omega))
  have hl := hr.1
  have HE : Hid (posE xs = if 200 < n then 8 else if fromB (-1000000) 1000000 xs = true then 0 else 2) := by show _ = _; unfold posE; rw [hl]
  clear hr hl
  by_cases h1 : 200 < n
  · have h1I : (200 : Int) < (n : Int) := by omega
    go_enter Tryz.func39, Tryz.ntmps39
    go_wp2
    go_ret
    exact ⟨by rw [HE.out, if_pos h1]; rfl, rfl⟩
  · have h1I : ¬ (200 : Int) < (n : Int) := by omega
    obtain ⟨t, ht⟩ : ∃ t, fromB (-1000000) 1000000 xs = t := ⟨_, rfl⟩
    rw [ht] at C HE
    clear ht
    cases t
    all_goals
      go_enter Tryz.func39, Tryz.ntmps39
      go_wp2_with (go_at_call 60; refine C.out.mono ?_; rintro e w' ⟨rfl, rfl⟩)
      go_ret
      exact ⟨by rw [HE.out, if_neg h1]; rfl, rfl⟩

theorem tdiv_floor (n d : Int) (hd : 0 < d) : (if n.tmod d < 0 then n.tdiv d - 1 else n.tdiv d) = n / d := by
  have h1 := Int.mul_tdiv_add_tmod n d
  have h2 := Int.tmod_lt_of_pos n hd
  have h3 : -d < n.tmod d := by have h3 := Int.tmod_lt_of_pos (-n) hd; rw [Int.neg_tmod] at h3; omega
  have h4 := Int.mul_ediv_self_le (x := n) (k := d) (by omega)
  have h5 := Int.lt_mul_ediv_self_add (x := n) (k := d) hd
  by_cases h : n.tmod d < 0
  · rw [if_pos h]
    have e : d * (n.tdiv d - 1) = d * n.tdiv d - d := by rw [Int.mul_sub, Int.mul_one]
    have a : d * (n.tdiv d - 1) ≤ d * (n / d) + d - 1 := by omega
    have b : d * (n / d) ≤ d * (n.tdiv d - 1) + d - 1 := by omega
    have a' : n.tdiv d - 1 < n / d + 1 := by
      apply Int.lt_of_mul_lt_mul_left (a := d) _ (by omega)
      rw [Int.mul_add, Int.mul_one]; omega
    have b' : n / d < n.tdiv d - 1 + 1 := by
      apply Int.lt_of_mul_lt_mul_left (a := d) _ (by omega)
      rw [Int.mul_add, Int.mul_one]; omega
    omega
  · rw [if_neg h]
    have a' : n.tdiv d < n / d + 1 := by
      apply Int.lt_of_mul_lt_mul_left (a := d) _ (by omega)
      rw [Int.mul_add, Int.mul_one]; omega
    have b' : n / d < n.tdiv d + 1 := by
      apply Int.lt_of_mul_lt_mul_left (a := d) _ (by omega)
      rw [Int.mul_add, Int.mul_one]; omega
    omega

theorem roundedDown_any (n d : Int) (hn : -4611686018427387904 ≤ n ∧ n ≤ 4611686018427387904) (hd : 0 < d ∧ d ≤ 4611686018427387904) (w : World) :
    Calls Tryz.prog 86 #[.int .i64 n, .int .i64 d] w fun e w' => e = .returned (.int .i64 (n / d)) ∧ w = w' := by
  have hf := Lib.hid (tdiv_floor n d hd.1)
  have hq : -4611686018427387904 ≤ n.tdiv d ∧ n.tdiv d ≤ 4611686018427387904 := by
    have h1 := Int.natAbs_tdiv_le_natAbs n d
    omega
  have HQ := Lib.hid hq
  clear hq
  have hd0 : d ≠ 0 := by omega
  have hd1 : (d == 0) = false := by simpa using hd0
  go_enter Tryz.func86, Tryz.ntmps86
  go_wp2
  all_goals go_ret
  · have h : n.tmod d < 0 := by assumption
    have h2 := hf.out
    have h3 := HQ.out
    rw [if_pos h] at h2
    refine ⟨?_, rfl⟩
    show Ending.returned (Value.int .i64 (wrap64 (n.tdiv d - 1))) = _
    rw [IntWalk.wrap64_in _ ⟨by omega, by omega⟩, h2]
  · have h : 0 ≤ n.tmod d := by assumption
    have h2 := hf.out
    rw [if_neg (by omega)] at h2
    refine ⟨?_, rfl⟩
    show Ending.returned (Value.int .i64 (n.tdiv d)) = _
    rw [h2]

/-- The slice at block g reads as ranges. -/
def RdR (w : World) (g n : Nat) (gs : List (Int × Int)) : Prop :=
  gs.length = n ∧ (0 < n → g < w.heap.size) ∧ ∀ j, j < n → w.cell? ⟨g, j * 2, none⟩ = some (.int .i64 (gs.getD j (0, 0)).1) ∧ w.cell? ⟨g, j * 2 + 1, none⟩ = some (.int .i64 (gs.getD j (0, 0)).2)
theorem RdR.below {w w' : World} {g n : Nat} {gs : List (Int × Int)} (h : RdR w g n gs) (hb : Below w.heap.size w w') : RdR w' g n gs :=
  ⟨h.1, fun h0 => Nat.lt_of_lt_of_le (h.2.1 h0) hb.size, fun j hj => ⟨(hb.cell (p := ⟨g, j * 2, none⟩) (h.2.1 (by omega))).trans (h.2.2 j hj).1, (hb.cell (p := ⟨g, j * 2 + 1, none⟩) (h.2.1 (by omega))).trans (h.2.2 j hj).2⟩⟩
theorem belowDrewN {n0 : Nat} {w w' : World} (h : Below n0 w w') : ∀ k, Below n0 w (w'.drewN k) := fun k => ⟨h.1, h.2, h.3, h.4, h.5⟩

def IdxRes (gs : List (Int × Int)) (p : Int × Int) (w : World) (e : Ending) (w' : World) : Prop := ∃ r : Int, e = .returned (.int .i64 r) ∧ (0 ≤ r ↔ p ∈ gs) ∧ r ≤ 1000000000 ∧ Below w.heap.size w w'

set_option maxRecDepth 100000 in
set_option maxHeartbeats 1000000 in
theorem indexR_any (g n c : Nat) (gs : List (Int × Int)) (a b : Int) (w : World) (hr : RdR w g n gs) (hn : n ≤ 1000000000) :
    Calls Tryz.prog 98 #[.slice (some ⟨g, 0, none⟩) n c, .agg #[.int .i64 a, .int .i64 b]] w (IdxRes gs (a, b) w) := by
  have HR := Lib.hid (hr.below ((Below.refl w.heap.size w).alloc (Nat.le_refl _) (.cells #[.int .i64 a, .int .i64 b] 51)))
  have hb0 := Lib.hid ((Below.refl w.heap.size w).alloc (Nat.le_refl _) (.cells #[.int .i64 a, .int .i64 b] 51))
  have hx := Bk.new w 51 #[.int .i64 a, .int .i64 b]
  obtain ⟨W0, hW0⟩ : ∃ W0, w.alloc (.cells #[.int .i64 a, .int .i64 b] 51) = W0 := ⟨_, rfl⟩
  rw [hW0] at HR hb0 hx
  have HX := Lib.hid hx
  clear hr hx
  go_enter Tryz.func98, Tryz.ntmps98
  go_wp2
  clear hW0
  go_loopw [8] (fun i wr => ∃ k : Nat, k ≤ n ∧ i = .int .i64 k ∧ Hid ((a, b) ∉ gs.take k) ∧ Hid (∃ j, wr = W0.drewN j)) (fun i _ => n - (intOf i).toNat)
  case atStart => exact ⟨0, Nat.zero_le _, rfl, by show _ ∉ _; simp, 0, rfl⟩
  case round =>
    obtain ⟨k, hk, rfl, HM, HJ⟩ := hrel
    obtain ⟨j, hj⟩ := HJ.out
    by_cases hlt : k < n
    · have hkI : (k : Int) < (n : Int) := by omega
      have hk0 : (0 : Int) ≤ (k : Int) := by omega
      obtain ⟨h1, h2⟩ := HR.out.2.2 k hlt
      obtain ⟨⟨x, y⟩, hxy⟩ : ∃ p, gs.getD k (0, 0) = p := ⟨_, rfl⟩
      rw [hxy] at h1 h2
      dsimp only at h1 h2
      have q1 : wr.cell? ⟨g, k * 2, none⟩ = some (.int .i64 x) := by rw [hj]; exact h1
      have q2 : wr.cell? ⟨g, k * 2 + 1, none⟩ = some (.int .i64 y) := by rw [hj]; exact h2
      have q3 : wr.cell? ⟨w.heap.size, 0, none⟩ = some (.int .i64 a) := by rw [hj]; show W0.cell? _ = _; rw [HX.out.cell]; rfl
      have q4 : wr.cell? ⟨w.heap.size, 1, none⟩ = some (.int .i64 b) := by rw [hj]; show W0.cell? _ = _; rw [HX.out.cell]; rfl
      have HT : Hid (gs.take (k + 1) = gs.take k ++ [(x, y)]) := by
        show _ = _
        rw [List.take_succ_eq_append_getElem (by rw [HR.out.1]; exact hlt), ← hxy]
        simp [List.getD_eq_getElem?_getD, List.getElem?_eq_getElem (show k < gs.length by rw [HR.out.1]; exact hlt)]
      have HJ' := Lib.hid hj
      have hgl : gs.length = n := HR.out.1
      have HGL := Lib.hid hgl
      clear hj HJ h1 h2 hxy hgl
      by_cases hax : a = x
      · subst hax
        by_cases hby : b = y
        · subst hby
          go_wp2
          go_quiet (fail)
          go_wp2
          go_ret
          refine ⟨k, rfl, ⟨fun _ => ?_, fun _ => by omega⟩, by omega, ?_⟩
          · have : (a, b) ∈ gs.take (k + 1) := by rw [HT.out]; simp
            exact List.mem_of_mem_take this
          · rw [HJ'.out]
            exact belowDrewN (belowDrewN hb0.out _) _
        · have hbe : (b == y) = false := by rw [beq_eq_false_iff_ne]; exact hby
          have HNE : Hid (¬ (a = a ∧ b = y)) := fun h => hby h.2
          clear hby
          go_wp2
          go_quiet (fail)
          go_wp2
          go_roundw
          case rel =>
            refine ⟨k + 1, by omega, by go_num, ?_, ?_⟩
            · show _ ∉ _
              rw [HT.out, List.mem_append]
              rintro (h | h)
              · exact HM.out h
              · simp at h; exact HNE.out (by simpa using h)
            · show ∃ _, _ = _
              rw [HJ'.out]; exact ⟨_, World.drewN_drewN _ _ _⟩
          case measure => simp [intOf]; omega
      · have hae : (a == x) = false := by rw [beq_eq_false_iff_ne]; exact hax
        have HNE : Hid (¬ (a = x ∧ b = y)) := fun h => hax h.1
        clear hax
        go_wp2
        go_quiet (fail)
        go_wp2
        go_roundw
        case rel =>
          refine ⟨k + 1, by omega, by go_num, ?_, ?_⟩
          · show _ ∉ _
            rw [HT.out, List.mem_append]
            rintro (h | h)
            · exact HM.out h
            · simp at h; exact HNE.out (by simpa using h)
          · show ∃ _, _ = _
            rw [HJ'.out]; exact ⟨_, World.drewN_drewN _ _ _⟩
        case measure => simp [intOf]; omega
    · obtain rfl : n = k := by omega
      have HJ' := Lib.hid hj
      clear hj HJ
      go_wp2
      go_ret
      refine ⟨-1, rfl, ⟨fun h => by omega, fun h => ?_⟩, by omega, ?_⟩
      · have h1 := HM.out
        rw [List.take_of_length_le (by rw [HR.out.1]; exact Nat.le_refl _)] at h1
        exact absurd h h1
      · rw [HJ'.out]
        exact belowDrewN hb0.out _

end Go.Proofs.YtjjflbnopphciaaGreatDoor
