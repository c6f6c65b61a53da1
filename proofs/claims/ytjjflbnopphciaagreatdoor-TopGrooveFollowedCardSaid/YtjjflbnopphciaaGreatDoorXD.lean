import Derived.Test.YtjjflbnopphciaaGreatDoorXA
import Derived.BigQuiet
import Derived.Deep.QuietTactic
import Derived.Maps.AppendAt
import Derived.Laws.Cover3
import Derived.Laws.OwnMore
namespace Go.Proofs.YtjjflbnopphciaaGreatDoor
open Go.RowKit

/-- The error of positions. -/
def posE (xs : List Int) : Int := if 200 < xs.length then 8 else if fromB (-1000000) 1000000 xs = true then 0 else 2
set_option maxHeartbeats 1000000 in
theorem checkPositions_any (A : Option Addr) (n c : Nat) (xs : List Int) (w : World) (hr : RdI w A n xs) (hn : n ≤ 9223372036854775806) :
    Calls Tryz.prog 39 #[.slice A n c] w fun e w' => e = .returned (.int .i64 (posE xs)) ∧ w = w' := by
  have C := Lib.hid (areAtMost_any A n c xs 1000000 w hr hn (by omega))
  have hl := hr.1
  have HE : Hid (posE xs = if 200 < n then 8 else if fromB (-1000000) 1000000 xs = true then 0 else 2) := by show _ = _; unfold posE; rw [hl]
  clear hr hl
  by_cases h1 : 200 < n
  · have h1I : (200 : Int) < (n : Int) := by omega
    go_enter Tryz.func39, Tryz.ntmps39
    go_wp2
    go_ret
    exact ⟨by rw [HE.out, if_pos h1]; rfl, rfl⟩
  · have h1I : ¬ (200 : Int) < (n : Int) := by omega
    obtain ⟨t, ht⟩ : ∃ t, fromB (-1000000) 1000000 xs = t := ⟨_, rfl⟩
    rw [ht] at C HE
    clear ht
    cases t
    all_goals
      go_enter Tryz.func39, Tryz.ntmps39
      go_wp2_with (go_at_call 60; refine C.out.mono ?_; rintro e w' ⟨rfl, rfl⟩)
      go_ret
      exact ⟨by rw [HE.out, if_neg h1]; rfl, rfl⟩

theorem tdiv_floor (n d : Int) (hd : 0 < d) : (if n.tmod d < 0 then n.tdiv d - 1 else n.tdiv d) = n / d := by
  have h1 := Int.mul_tdiv_add_tmod n d
  have h2 := Int.tmod_lt_of_pos n hd
  have h3 : -d < n.tmod d := by have h3 := Int.tmod_lt_of_pos (-n) hd; rw [Int.neg_tmod] at h3; omega
  have h4 := Int.mul_ediv_self_le (x := n) (k := d) (by omega)
  have h5 := Int.lt_mul_ediv_self_add (x := n) (k := d) hd
  by_cases h : n.tmod d < 0
  · rw [if_pos h]
    have e : d * (n.tdiv d - 1) = d * n.tdiv d - d := by rw [Int.mul_sub, Int.mul_one]
    have a : d * (n.tdiv d - 1) ≤ d * (n / d) + d - 1 := by omega
    have b : d * (n / d) ≤ d * (n.tdiv d - 1) + d - 1 := by omega
    have a' : n.tdiv d - 1 < n / d + 1 := by
      apply Int.lt_of_mul_lt_mul_left (a := d) _ (by omega)
      rw [Int.mul_add, Int.mul_one]; omega
    have b' : n / d < n.tdiv d - 1 + 1 := by
      apply Int.lt_of_mul_lt_mul_left (a := d) _ (by omega)
      rw [Int.mul_add, Int.mul_one]; omega
    omega
  · rw [if_neg h]
    have a' : n.tdiv d < n / d + 1 := by
      apply Int.lt_of_mul_lt_mul_left (a := d) _ (by omega)
      rw [Int.mul_add, Int.mul_one]; omega
    have b' : n / d < n.tdiv d + 1 := by
      apply Int.lt_of_mul_lt_mul_left (a := d) _ (by omega)
      rw [Int.mul_add, Int.mul_one]; omega
    omega

theorem roundedDown_any (n d : Int) (hn : -4611686018427387904 ≤ n ∧ n ≤ 4611686018427387904) (hd : 0 < d ∧ d ≤ 4611686018427387904) (w : World) :
    Calls Tryz.prog 86 #[.int .i64 n, .int .i64 d] w fun e w' => e = .returned (.int .i64 (n / d)) ∧ w = w' := by
  have hf := Lib.hid (tdiv_floor n d hd.1)
  have hq : -4611686018427387904 ≤ n.tdiv d ∧ n.tdiv d ≤ 4611686018427387904 := by
    have h1 := Int.natAbs_tdiv_le_natAbs n d
    omega
  have HQ := Lib.hid hq
  clear hq
  have hd0 : d ≠ 0 := by omega
  have hd1 : (d == 0) = false := by simpa using hd0
  go_enter Tryz.func86, Tryz.ntmps86
  go_wp2
  all_goals go_ret
  · have h : n.tmod d < 0 := by assumption
    have h2 := hf.out
    have h3 := HQ.out
    rw [if_pos h] at h2
    refine ⟨?_, rfl⟩
    show Ending.returned (Value.int .i64 (wrap64 (n.tdiv d - 1))) = _
    rw [IntWalk.wrap64_in _ ⟨by omega, by omega⟩, h2]
  · have h : 0 ≤ n.tmod d := by assumption
    have h2 := hf.out
    rw [if_neg (by omega)] at h2
    refine ⟨?_, rfl⟩
    show Ending.returned (Value.int .i64 (n.tdiv d)) = _
    rw [h2]

/-- The slice at block g reads as ranges. -/
def RdR (w : World) (g n : Nat) (gs : List (Int × Int)) : Prop :=
  gs.length = n ∧ (0 < n → g < w.heap.size) ∧ ∀ j, j < n → w.cell? ⟨g, j * 2, none⟩ = some (.int .i64 (gs.getD j (0, 0)).1) ∧ w.cell? ⟨g, j * 2 + 1, none⟩ = some (.int .i64 (gs.getD j (0, 0)).2)
theorem RdR.below {w w' : World} {g n : Nat} {gs : List (Int × Int)} (h : RdR w g n gs) (hb : Below w.heap.size w w') : RdR w' g n gs :=
  ⟨h.1, fun h0 => Nat.lt_of_lt_of_le (h.2.1 h0) hb.size, fun j hj => ⟨(hb.cell (p := ⟨g, j * 2, none⟩) (h.2.1 (by omega))).trans (h.2.2 j hj).1, (hb.cell (p := ⟨g, j * 2 + 1, none⟩) (h.2.1 (by omega))).trans (h.2.2 j hj).2⟩⟩
theorem belowDrewN {n0 : Nat} {w w' : World} (h : Below n0 w w') : ∀ k, Below n0 w (w'.drewN k) := fun k => ⟨h.1, h.2, h.3, h.4, h.5⟩

def IdxRes (gs : List (Int × Int)) (p : Int × Int) (w : World) (e : Ending) (w' : World) : Prop := ∃ r : Int, e = .returned (.int .i64 r) ∧ (0 ≤ r ↔ p ∈ gs) ∧ r ≤ 1000000000 ∧ Below w.heap.size w w'

set_option maxRecDepth 100000 in
set_option maxHeartbeats 1000000 in
theorem indexR_any (g n c : Nat) (gs : List (Int × Int)) (a b : Int) (w : World) (hr : RdR w g n gs) (hn : n ≤ 1000000000) :
    Calls Tryz.prog 98 #[.slice (some ⟨g, 0, none⟩) n c, .agg #[.int .i64 a, .int .i64 b]] w (IdxRes gs (a, b) w) := by
  have HR := Lib.hid (hr.below ((Below.refl w.heap.size w).alloc (Nat.le_refl _) (.cells #[.int .i64 a, .int .i64 b] 51)))
  have hb0 := Lib.hid ((Below.refl w.heap.size w).alloc (Nat.le_refl _) (.cells #[.int .i64 a, .int .i64 b] 51))
  have hx := Bk.new w 51 #[.int .i64 a, .int .i64 b]
  obtain ⟨W0, hW0⟩ : ∃ W0, w.alloc (.cells #[.int .i64 a, .int .i64 b] 51) = W0 := ⟨_, rfl⟩
  rw [hW0] at HR hb0 hx
  have HX := Lib.hid hx
  clear hr hx
  go_enter Tryz.func98, Tryz.ntmps98
  go_wp2
  clear hW0
  go_loopw [8] (fun i wr => ∃ k : Nat, k ≤ n ∧ i = .int .i64 k ∧ Hid ((a, b) ∉ gs.take k) ∧ Hid (∃ j, wr = W0.drewN j)) (fun i _ => n - (intOf i).toNat)
  case atStart => exact ⟨0, Nat.zero_le _, rfl, by show _ ∉ _; simp, 0, rfl⟩
  case round =>
    obtain ⟨k, hk, rfl, HM, HJ⟩ := hrel
    obtain ⟨j, hj⟩ := HJ.out
    by_cases hlt : k < n
    · have hkI : (k : Int) < (n : Int) := by omega
      have hk0 : (0 : Int) ≤ (k : Int) := by omega
      obtain ⟨h1, h2⟩ := HR.out.2.2 k hlt
      obtain ⟨⟨x, y⟩, hxy⟩ : ∃ p, gs.getD k (0, 0) = p := ⟨_, rfl⟩
      rw [hxy] at h1 h2
      dsimp only at h1 h2
      have q1 : wr.cell? ⟨g, k * 2, none⟩ = some (.int .i64 x) := by rw [hj]; exact h1
      have q2 : wr.cell? ⟨g, k * 2 + 1, none⟩ = some (.int .i64 y) := by rw [hj]; exact h2
      have q3 : wr.cell? ⟨w.heap.size, 0, none⟩ = some (.int .i64 a) := by rw [hj]; show W0.cell? _ = _; rw [HX.out.cell]; rfl
      have q4 : wr.cell? ⟨w.heap.size, 1, none⟩ = some (.int .i64 b) := by rw [hj]; show W0.cell? _ = _; rw [HX.out.cell]; rfl
      have HT : Hid (gs.take (k + 1) = gs.take k ++ [(x, y)]) := by
        show _ = _
        rw [List.take_succ_eq_append_getElem (by rw [HR.out.1]; exact hlt), ← hxy]
        simp [List.getD_eq_getElem?_getD, List.getElem?_eq_getElem (show k < gs.length by rw [HR.out.1]; exact hlt)]
      have HJ' := Lib.hid hj
      have hgl : gs.length = n := HR.out.1
      have HGL := Lib.hid hgl
      clear hj HJ h1 h2 hxy hgl
      by_cases hax : a = x
      · subst hax
        by_cases hby : b = y
        · subst hby
          go_wp2
          go_quiet (fail)
          go_wp2
          go_ret
          refine ⟨k, rfl, ⟨fun _ => ?_, fun _ => by omega⟩, by omega, ?_⟩
          · have : (a, b) ∈ gs.take (k + 1) := by rw [HT.out]; simp
            exact List.mem_of_mem_take this
          · rw [HJ'.out]
            exact belowDrewN (belowDrewN hb0.out _) _
        · have hbe : (b == y) = false := by rw [beq_eq_false_iff_ne]; exact hby
          have HNE : Hid (¬ (a = a ∧ b = y)) := fun h => hby h.2
          clear hby
          go_wp2
          go_quiet (fail)
          go_wp2
          go_roundw
          case rel =>
            refine ⟨k + 1, by omega, by go_num, ?_, ?_⟩
            · show _ ∉ _
              rw [HT.out, List.mem_append]
              rintro (h | h)
              · exact HM.out h
              · simp at h; exact HNE.out (by simpa using h)
            · show ∃ _, _ = _
              rw [HJ'.out]; exact ⟨_, World.drewN_drewN _ _ _⟩
          case measure => simp [intOf]; omega
      · have hae : (a == x) = false := by rw [beq_eq_false_iff_ne]; exact hax
        have HNE : Hid (¬ (a = x ∧ b = y)) := fun h => hax h.1
        clear hax
        go_wp2
        go_quiet (fail)
        go_wp2
        go_roundw
        case rel =>
          refine ⟨k + 1, by omega, by go_num, ?_, ?_⟩
          · show _ ∉ _
            rw [HT.out, List.mem_append]
            rintro (h | h)
            · exact HM.out h
            · simp at h; exact HNE.out (by simpa using h)
          · show ∃ _, _ = _
            rw [HJ'.out]; exact ⟨_, World.drewN_drewN _ _ _⟩
        case measure => simp [intOf]; omega
    · obtain rfl : n = k := by omega
      have HJ' := Lib.hid hj
      clear hj HJ
      go_wp2
      go_ret
      refine ⟨-1, rfl, ⟨fun h => by omega, fun h => ?_⟩, by omega, ?_⟩
      · have h1 := HM.out
        rw [List.take_of_length_le (by rw [HR.out.1]; exact Nat.le_refl _)] at h1
        exact absurd h h1
      · rw [HJ'.out]
        exact belowDrewN hb0.out _

end Go.Proofs.YtjjflbnopphciaaGreatDoor

namespace Go.Proofs.YtjjflbnopphciaaGreatDoor
open Go.RowKit

theorem containsR_any (g n c : Nat) (gs : List (Int × Int)) (a b : Int) (w : World) (hr : RdR w g n gs) (hn : n ≤ 1000000000) :
    Calls Tryz.prog 84 #[.slice (some ⟨g, 0, none⟩) n c, .agg #[.int .i64 a, .int .i64 b]] w fun e w' => e = .returned (.bool (decide ((a, b) ∈ gs))) ∧ Below w.heap.size w w' := by
  have hb0 := (Below.refl w.heap.size w).alloc (Nat.le_refl _) (.cells #[.int .i64 a, .int .i64 b] 51)
  have C := Lib.hid (indexR_any g n c gs a b _ (hr.below hb0) hn)
  have HB0 := Lib.hid hb0
  clear hr hb0
  go_enter Tryz.func84, Tryz.ntmps84
  go_wp2_with fail
  refine C.out.mono ?_
  rintro e w1 ⟨r, rfl, hm, hr1, hb1⟩
  have HM := Lib.hid hm
  have HB := Lib.hid (HB0.out.trans (hb1.mono HB0.out.size))
  clear hm hb1 C
  go_wp2
  go_ret
  refine ⟨?_, HB.out⟩
  have : decide (0 ≤ r) = decide ((a, b) ∈ gs) := decide_eq_decide.2 HM.out
  rw [← this]; rfl

theorem nilCmp (a : Option Addr) (n c : Nat) (W : World) : (binOp .eql 22 (.slice a n c) (.slice none 0 0)).run Tryz.prog W = .ok (.bool a.isNone) W := by
  have h := run_equal_slice_nil (P := Tryz.prog) W 22 3 a n c Tryz.underlying22
  simp only [binOp]
  simp [h]

set_option maxRecDepth 100000 in
theorem clone_any (A : Option Addr) (n c : Nat) (xs : List Int) (w : World) (hr : RdI w A n xs) (hn : n ≤ 1000000) :
    Calls Tryz.prog 57 #[.slice A n c] w (OwnS w xs) := by
  obtain ⟨i0, hi0, hz0, hz1, hz2⟩ := info_parts intInfo'
  rcases A with _ | ad
  · have hnc := nilCmp none 0
    have h0 : n = 0 := by
      rcases Nat.eq_zero_or_pos n with h | h
      · exact h
      · obtain ⟨_, h1, _⟩ := hr.2 h; cases h1
    have hx : xs = [] := List.eq_nil_of_length_eq_zero (by rw [hr.1, h0])
    subst hx h0
    clear hr
    go_enter Tryz.func57, Tryz.ntmps57
    go_wp2
    go_ret
    exact ⟨⟨_, rfl, World.ownsRow_nil _ _ _ _⟩, Below.refl _ _⟩
  · have hnc := nilCmp (some ad) n
    have hl := hr.1
    have hsrc : Hid (∀ j u, (xs.map (Value.int .i64))[j]? = some u → (w.alloc (.cells #[] 3)).cell? (ad.add j) = some u) := by
      intro j u hu
      have hj : j < n := by
        rcases Nat.lt_or_ge j n with h | h
        · exact h
        · rw [List.getElem?_eq_none (by simp; omega)] at hu; cases hu
      obtain ⟨ad', e, _, hc⟩ := hr.2 (by omega)
      cases e
      have := cellA (.cells #[] 3) (hc j hj)
      rw [this]
      rw [List.getElem?_map, List.getElem?_eq_getElem (by omega)] at hu
      rw [List.getD_eq_getElem?_getD, List.getElem?_eq_getElem (by omega)]
      simpa using hu
    have hone : Hid (∀ u ∈ xs.map (Value.int .i64), u.oneCell' = true) := by
      intro u hu
      obtain ⟨x, _, rfl⟩ := List.mem_map.1 hu
      rfl
    have ho : Hid ((w.alloc (.cells #[] 3)).ownsRow w.heap.size 3 1 (.slice (some ⟨w.heap.size, 0, none⟩) 0 0) 0 ([] : List Value)) := World.ownsRow_lit w #[] 0 (Nat.le_refl _) (by simp only [maxLen]; omega) rfl
    have HL := Lib.hid hl
    clear hr hl
    obtain ⟨news, hnews⟩ : ∃ news, xs.map (Value.int .i64) = news := ⟨_, rfl⟩
    have hnl : Hid (news.length = n * 1) := by show _ = _; rw [← hnews, List.length_map, HL.out, Nat.mul_one]
    rw [hnews] at hsrc hone
    have HN := Lib.hid hnews
    clear hnews
    go_enter Tryz.func57, Tryz.ntmps57
    go_wp2_with (at_builtin; refine wpList_append_own _ rfl (.tmp 5) (.tmp 6) 22 rfl w.heap.size 3 i0 _ 1 8 Tryz.underlying22 hi0 hz0 hz1 hz2 rfl (by decide) _ _ _ rfl ho.out ad n c news rfl hnl.out hsrc.out hone.out (by unfold maxLen; omega) (by omega) (by simp) ?_)
    intro v' w1 hown' hgrow _
    have HO : Hid (w1.ownsRow w.heap.size 3 1 v' xs.length (xs.map (Value.int .i64))) := by
      show World.ownsRow _ _ _ _ _ _ _
      rw [HN.out, HL.out]
      simpa using hown'
    have HB : Hid (Below w.heap.size w w1) := ((Below.refl _ w).alloc (Nat.le_refl _) _).grown hgrow (by simp) (fun k e => by simp [Value.ownBlock] at e; omega)
    clear hown' hgrow
    go_wp2
    go_ret
    exact ⟨⟨_, rfl, HO.out⟩, HB.out⟩

end Go.Proofs.YtjjflbnopphciaaGreatDoor

namespace Go.Proofs.YtjjflbnopphciaaGreatDoor

theorem mul_bd {x t M T : Int} (h1 : -M ≤ x) (h2 : x ≤ M) (h3 : 0 ≤ t) (h4 : t ≤ T) (hM : 0 ≤ M) : -(M * T) ≤ x * t ∧ x * t ≤ M * T := by
  have a := Int.mul_le_mul_of_nonneg_right h2 h3
  have b := Int.mul_le_mul_of_nonneg_right h1 h3
  have c := Int.mul_le_mul_of_nonneg_left h4 hM
  rw [Int.neg_mul] at b
  omega

/-- The number between a and b at t parts of T. -/
def lerp (a b t T : Int) : Int := a + (b - a) * t / T
theorem lerp_bd (a b t T : Int) (hT : 0 < T) (h0 : 0 ≤ t) (h1 : t ≤ T) : (a ≤ b → a ≤ lerp a b t T ∧ lerp a b t T ≤ b) ∧ (b ≤ a → b ≤ lerp a b t T ∧ lerp a b t T ≤ a) := by
  unfold lerp
  refine ⟨fun h => ?_, fun h => ?_⟩
  · have h2 : 0 ≤ (b - a) * t := Int.mul_nonneg (by omega) h0
    have h3 : (b - a) * t ≤ (b - a) * T := Int.mul_le_mul_of_nonneg_left h1 (by omega)
    have h4 : 0 ≤ (b - a) * t / T := Int.ediv_nonneg h2 (by omega)
    have h5 : (b - a) * t / T ≤ b - a := Int.ediv_le_of_le_mul hT h3
    omega
  · have h2 : (b - a) * t ≤ 0 * T := by
      have := Int.mul_nonneg (a := a - b) (b := t) (by omega) h0
      have e : (a - b) * t = -((b - a) * t) := by rw [← Int.neg_mul]; congr 1; omega
      omega
    have h3 : (b - a) * T ≤ (b - a) * t := by
      have := Int.mul_le_mul_of_nonneg_left (c := a - b) h1 (by omega)
      have e : (a - b) * t = -((b - a) * t) := by rw [← Int.neg_mul]; congr 1; omega
      have e2 : (a - b) * T = -((b - a) * T) := by rw [← Int.neg_mul]; congr 1; omega
      omega
    have h4 : (b - a) * t / T ≤ 0 := Int.ediv_le_of_le_mul hT h2
    have h5 : b - a ≤ (b - a) * t / T := Int.le_ediv_of_mul_le hT h3
    omega

/-- The positions before and after a gap. -/
def endsL (xs : List Int) (lo hi : Nat) : Int × Int :=
  if lo = 0 then (xs.getD (hi + 1) 0, xs.getD (hi + 1) 0) else if hi + 1 = xs.length then (xs.getD (lo - 1) 0, xs.getD (lo - 1) 0) else (xs.getD (lo - 1) 0, xs.getD (hi + 1) 0)
def bridgeAt (p : Int × Int) (lo hi i : Nat) : Int := lerp p.1 p.2 ((i : Int) - ((lo : Int) - 1)) (((hi : Int) + 1) - ((lo : Int) - 1))
def bridgeTo (p : Int × Int) (xs : List Int) (lo hi k : Nat) : List Int := (List.range xs.length).map fun i => if lo ≤ i ∧ i < lo + k then bridgeAt p lo hi i else xs.getD i 0
def bridgeL (xs : List Int) (lo hi : Nat) : List Int := bridgeTo (endsL xs lo hi) xs lo hi (hi + 1 - lo)
theorem bridgeTo_length (p : Int × Int) (xs : List Int) (lo hi k : Nat) : (bridgeTo p xs lo hi k).length = xs.length := by simp [bridgeTo]
theorem bridgeTo_zero (p : Int × Int) (xs : List Int) (lo hi : Nat) : bridgeTo p xs lo hi 0 = xs := by
  apply List.ext_getElem
  · simp [bridgeTo]
  · intro i h1 h2
    simp only [bridgeTo, List.getElem_map, List.getElem_range]
    rw [if_neg (by omega), List.getD_eq_getElem?_getD, List.getElem?_eq_getElem h2]; rfl
theorem bridgeTo_set (p : Int × Int) (xs : List Int) (lo hi k : Nat) : (bridgeTo p xs lo hi k).set (lo + k) (bridgeAt p lo hi (lo + k)) = bridgeTo p xs lo hi (k + 1) := by
  apply List.ext_getElem
  · simp [bridgeTo]
  · intro i h1 h2
    rw [List.getElem_set]
    by_cases e : lo + k = i
    · subst e
      simp only [bridgeTo, List.getElem_map, List.getElem_range, if_true]
      rw [if_pos (by omega)]
    · rw [if_neg e]
      simp only [bridgeTo, List.getElem_map, List.getElem_range]
      by_cases h : lo ≤ i ∧ i < lo + k
      · rw [if_pos h, if_pos (by omega)]
      · rw [if_neg h, if_neg (by omega)]
def Small (xs : List Int) : Prop := ∀ x ∈ xs, -1000000 ≤ x ∧ x ≤ 1000000
theorem Small.at_ {xs : List Int} (h : Small xs) (i : Nat) : -1000000 ≤ xs.getD i 0 ∧ xs.getD i 0 ≤ 1000000 := by
  rcases Nat.lt_or_ge i xs.length with h1 | h1
  · rw [List.getD_eq_getElem?_getD, List.getElem?_eq_getElem h1]; exact h _ (List.getElem_mem _)
  · rw [List.getD_eq_getElem?_getD, List.getElem?_eq_none h1]; decide
theorem Small.ends {xs : List Int} (h : Small xs) (lo hi : Nat) : (-1000000 ≤ (endsL xs lo hi).1 ∧ (endsL xs lo hi).1 ≤ 1000000) ∧ -1000000 ≤ (endsL xs lo hi).2 ∧ (endsL xs lo hi).2 ≤ 1000000 := by
  unfold endsL
  split
  · exact ⟨h.at_ _, h.at_ _⟩
  · split
    · exact ⟨h.at_ _, h.at_ _⟩
    · exact ⟨h.at_ _, h.at_ _⟩
theorem bridgeAt_bd {p : Int × Int} (h : (-1000000 ≤ p.1 ∧ p.1 ≤ 1000000) ∧ -1000000 ≤ p.2 ∧ p.2 ≤ 1000000) {lo hi i : Nat} (h1 : lo ≤ i) (h2 : i ≤ hi) : -1000000 ≤ bridgeAt p lo hi i ∧ bridgeAt p lo hi i ≤ 1000000 := by
  have := lerp_bd p.1 p.2 ((i : Int) - ((lo : Int) - 1)) (((hi : Int) + 1) - ((lo : Int) - 1)) (by omega) (by omega) (by omega)
  unfold bridgeAt
  rcases Int.le_total p.1 p.2 with h3 | h3
  · have := this.1 h3; omega
  · have := this.2 h3; omega
theorem Small.bridge {xs : List Int} (h : Small xs) (lo hi : Nat) : Small (bridgeL xs lo hi) := by
  intro x hx
  simp only [bridgeL, bridgeTo, List.mem_map, List.mem_range] at hx
  obtain ⟨i, hi', rfl⟩ := hx
  split
  · rename_i hc; exact bridgeAt_bd (h.ends lo hi) hc.1 (by omega)
  · exact h.at_ i
theorem bridgeL_length (xs : List Int) (lo hi : Nat) : (bridgeL xs lo hi).length = xs.length := bridgeTo_length _ _ _ _ _

/-- The error of the gaps of so many positions: of one gap, given the one before. -/
def gapE (count : Int) (prev : Option (Int × Int)) (g : Int × Int) : Int :=
  if (0 ≤ g.1 ∧ g.1 ≤ count - 1) ∧ (0 ≤ g.2 ∧ g.2 ≤ count - 1) then
    (if g.2 < g.1 then 9 else match prev with | none => 0 | some p => if g.1 ≤ p.2 + 1 then 9 else 0)
  else 6
def gapsF (count : Int) : Option (Int × Int) → List (Int × Int) → Int
  | _, [] => 0
  | prev, g :: gs => if gapE count prev g = 0 then gapsF count (some g) gs else gapE count prev g
def gapsE (count : Int) (gs : List (Int × Int)) : Int := if gapsF count none gs = 0 then (if (0, count - 1) ∈ gs then 12 else 0) else gapsF count none gs
def prevOf (gs : List (Int × Int)) (k : Nat) : Option (Int × Int) := if k = 0 then none else some (gs.getD (k - 1) (0, 0))
theorem gapsF_step (count : Int) (gs : List (Int × Int)) (k : Nat) (h : k < gs.length) :
    gapsF count (prevOf gs k) (gs.drop k) = if gapE count (prevOf gs k) (gs.getD k (0, 0)) = 0 then gapsF count (prevOf gs (k + 1)) (gs.drop (k + 1)) else gapE count (prevOf gs k) (gs.getD k (0, 0)) := by
  rw [List.drop_eq_getElem_cons h]
  have e : gs.getD k (0, 0) = gs[k] := by simp [List.getD_eq_getElem?_getD, List.getElem?_eq_getElem h]
  have e2 : prevOf gs (k + 1) = some gs[k] := by unfold prevOf; rw [if_neg (by omega), Nat.add_sub_cancel, e]
  rw [e, e2]
  rfl
theorem gapsF_ok {count : Int} : ∀ {gs : List (Int × Int)} {prev : Option (Int × Int)}, gapsF count prev gs = 0 → ∀ g ∈ gs, 0 ≤ g.1 ∧ g.1 ≤ g.2 ∧ g.2 ≤ count - 1
  | [], _, _, g, hg => by simp at hg
  | a :: l, prev, h, g, hg => by
    have ha : gapE count prev a = 0 := by
      unfold gapsF at h
      split at h
      · assumption
      · exact h
    have hl : gapsF count (some a) l = 0 := by unfold gapsF at h; rw [if_pos ha] at h; exact h
    rcases List.mem_cons.1 hg with rfl | hg
    · unfold gapE at ha
      split at ha
      · rename_i h1
        split at ha
        · omega
        · omega
      · omega
    · exact gapsF_ok hl g hg

def bridgedL (xs : List Int) (gs : List (Int × Int)) : List Int := gs.foldl (fun l g => bridgeL l g.1.toNat g.2.toNat) xs
theorem bridgedL_snoc (xs : List Int) (gs : List (Int × Int)) (g : Int × Int) : bridgedL xs (gs ++ [g]) = bridgeL (bridgedL xs gs) g.1.toNat g.2.toNat := by simp [bridgedL]
theorem bridgedL_length (xs : List Int) : ∀ gs : List (Int × Int), (bridgedL xs gs).length = xs.length := by
  intro gs
  unfold bridgedL
  induction gs generalizing xs with
  | nil => rfl
  | cons g l ih => rw [List.foldl_cons, ih, bridgeL_length]
theorem bridgedL_small {xs : List Int} (h : Small xs) : ∀ gs : List (Int × Int), Small (bridgedL xs gs) := by
  intro gs
  unfold bridgedL
  induction gs generalizing xs with
  | nil => exact h
  | cons g l ih => rw [List.foldl_cons]; exact ih (h.bridge _ _)

end Go.Proofs.YtjjflbnopphciaaGreatDoor

namespace Go.Proofs.YtjjflbnopphciaaGreatDoor
open Go.RowKit

set_option maxRecDepth 100000 in
set_option maxHeartbeats 1000000 in
theorem endsOf_any (g n c lo hi : Nat) (xs : List Int) (w : World) (hr : RdI w (some ⟨g, 0, none⟩) n xs) (hn : n ≤ 1000000) (h1 : lo ≤ hi) (h2 : hi < n) (h3 : ¬ (lo = 0 ∧ hi + 1 = n)) :
    Calls Tryz.prog 85 #[.slice (some ⟨g, 0, none⟩) n c, .agg #[.int .i64 lo, .int .i64 hi]] w fun e w' => e = .returned (.tuple #[.int .i64 (endsL xs lo hi).1, .int .i64 (endsL xs lo hi).2]) ∧ ∃ k, w' = (w.alloc (.cells #[.int .i64 lo, .int .i64 hi] 51)).drewN k := by
  have hl := hr.1
  obtain ⟨_, hg, hgl, hc⟩ := hr.2 (by omega)
  cases hg
  dsimp only at hgl
  have hcell : ∀ j, j < n → (w.alloc (.cells #[.int .i64 lo, .int .i64 hi] 51)).cell? ⟨g, j, none⟩ = some (.int .i64 (xs.getD j 0)) := fun j hj => by
    have := cellA (.cells #[.int .i64 (lo : Int), .int .i64 (hi : Int)] 51) (hc j hj)
    rw [addOff] at this; exact this
  have HC := Lib.hid hcell
  clear hcell hc hr
  have hwh : IntKind.i64.wrap ((hi : Int) + 1) = (hi : Int) + 1 := IntWalk.i64_in _ (by omega)
  have hn1 : IntKind.i64.wrap ((n : Int) - 1) = (n : Int) - 1 := IntWalk.i64_in _ (by omega)
  by_cases hlo : lo = 0
  · subst hlo
    have hE : endsL xs 0 hi = (xs.getD (hi + 1) 0, xs.getD (hi + 1) 0) := rfl
    have q2 := HC.out (hi + 1) (by omega)
    obtain ⟨x2, hx2⟩ : ∃ x, xs.getD (hi + 1) 0 = x := ⟨_, rfl⟩
    rw [hx2] at q2 hE
    have HE := Lib.hid hE
    have hzz : (hi : Int) + 1 < (n : Int) := by omega
    simp only [Int.natCast_zero] at q2
    have hz2 : ((hi : Int) + 1).toNat = hi + 1 := by omega
    have hz3 : (0 : Int) ≤ (hi : Int) + 1 := by omega
    clear hx2 hE hl
    go_enter Tryz.func85, Tryz.ntmps85
    go_wp2
    go_ret2
    exact ⟨by rw [HE.out]; rfl, 0, rfl⟩
  · obtain ⟨q, rfl⟩ : ∃ q, lo = q + 1 := ⟨lo - 1, by omega⟩
    have q1 := HC.out q (by omega)
    have hl0 : (((q + 1 : Nat) : Int) == 0) = false := by rw [beq_eq_false_iff_ne]; omega
    have hl0' : ((q : Int) + 1 == 0) = false := by rw [beq_eq_false_iff_ne]; omega
    have hwq : IntKind.i64.wrap (q : Int) = (q : Int) := IntWalk.i64_in _ (by omega)
    have hq0 : (0 : Int) ≤ (q : Int) := by omega
    have hqn : (q : Int) < (n : Int) := by omega
    by_cases hhi : hi + 1 = n
    · have hE : endsL xs (q + 1) hi = (xs.getD q 0, xs.getD q 0) := by unfold endsL; rw [if_neg (by omega), if_pos (by omega)]; rfl
      obtain ⟨x1, hx1⟩ : ∃ x, xs.getD q 0 = x := ⟨_, rfl⟩
      rw [hx1] at q1 hE
      have HE := Lib.hid hE
      have hh : ((hi : Int) == (n : Int) - 1) = true := by rw [beq_iff_eq]; omega
      simp only [Int.natCast_add, Int.natCast_one, Int.cast_ofNat_Int] at q1
      clear hx1 hE hl hhi
      go_enter Tryz.func85, Tryz.ntmps85
      go_wp2
      go_ret2
      exact ⟨by rw [HE.out]; rfl, 0, rfl⟩
    · have hE : endsL xs (q + 1) hi = (xs.getD q 0, xs.getD (hi + 1) 0) := by unfold endsL; rw [if_neg (by omega), if_neg (by omega)]; rfl
      have q2 := HC.out (hi + 1) (by omega)
      obtain ⟨x1, hx1⟩ : ∃ x, xs.getD q 0 = x := ⟨_, rfl⟩
      obtain ⟨x2, hx2⟩ : ∃ x, xs.getD (hi + 1) 0 = x := ⟨_, rfl⟩
      rw [hx1] at q1 hE
      rw [hx2] at q2 hE
      have HE := Lib.hid hE
      have hh : ((hi : Int) == (n : Int) - 1) = false := by rw [beq_eq_false_iff_ne]; omega
      have hzz : (hi : Int) + 1 < (n : Int) := by omega
      have hz2 : ((hi : Int) + 1).toNat = hi + 1 := by omega
      have hz3 : (0 : Int) ≤ (hi : Int) + 1 := by omega
      have HS0 : Hid ((fun w' : World => w'.cell? ⟨w.heap.size, 0, none⟩ = some (.int .i64 ((q : Int) + 1)) ∧ w'.cell? ⟨w.heap.size, 1, none⟩ = some (.int .i64 hi) ∧ w'.cell? ⟨g, q, none⟩ = some (.int .i64 x1) ∧ w'.cell? ⟨g, hi + 1, none⟩ = some (.int .i64 x2)) (w.alloc (.cells #[.int .i64 ((q : Int) + 1), .int .i64 hi] 51)).drew) := by
        refine ⟨by simp [go_sem], by simp [go_sem], ?_, ?_⟩
        · have := q1; simpa using this
        · have := q2; simpa using this
      clear hx1 hx2 hE hl hhi q1 q2
      go_enter Tryz.func85, Tryz.ntmps85
      go_wp2_with fail
      refine wp_region_held_drew (S := (fun w' : World => w'.cell? ⟨w.heap.size, 0, none⟩ = some (.int .i64 ((q : Int) + 1)) ∧ w'.cell? ⟨w.heap.size, 1, none⟩ = some (.int .i64 hi) ∧ w'.cell? ⟨g, q, none⟩ = some (.int .i64 x1) ∧ w'.cell? ⟨g, hi + 1, none⟩ = some (.int .i64 x2))) (by kernel_rfl) ?_ ?_
      · exact HS0.out
      intro hHeld
      refine wpAnyH_take (i := 0) (v := ?_) rfl (by kernel_rfl) (by kernel_rfl) (by kernel_rfl) (fun _ _ _ h => h) (Or.inl ⟨by rfl, ?_⟩) (by assumption) ?_
      rotate_left
      · intro w hSw; (try dsimp only at hSw); go_simp; (try (with_reducible rfl))
      try simp only [List.getElem_toArray, List.getElem_cons_succ, List.getElem_cons_zero, Act.put, List.setIfInBounds_toArray, List.set_cons_zero, List.set_cons_succ]
      refine wpAnyH_take (i := 1) (v := ?_) rfl (by kernel_rfl) (by kernel_rfl) (by kernel_rfl) (fun _ _ _ h => h) (Or.inl ⟨by rfl, ?_⟩) (by assumption) ?_
      rotate_left
      · intro w hSw; (try dsimp only at hSw); go_simp; (try (with_reducible rfl))
      try simp only [List.getElem_toArray, List.getElem_cons_succ, List.getElem_cons_zero, Act.put, List.setIfInBounds_toArray, List.set_cons_zero, List.set_cons_succ]
      refine wpAnyH_take (i := 2) (v := ?_) rfl (by kernel_rfl) (by kernel_rfl) (by kernel_rfl) (fun _ _ _ h => h) (Or.inl ⟨by rfl, ?_⟩) (by assumption) ?_
      rotate_left
      · intro w hSw; (try dsimp only at hSw); go_simp; (try (with_reducible rfl))
      try simp only [List.getElem_toArray, List.getElem_cons_succ, List.getElem_cons_zero, Act.put, List.setIfInBounds_toArray, List.set_cons_zero, List.set_cons_succ]
      refine wpAnyH_take (i := 3) (v := ?_) rfl (by kernel_rfl) (by kernel_rfl) (by kernel_rfl) (fun _ _ _ h => h) (Or.inl ⟨by rfl, ?_⟩) (by assumption) ?_
      rotate_left
      · intro w hSw; (try dsimp only at hSw); go_simp; (try (with_reducible rfl))
      try simp only [List.getElem_toArray, List.getElem_cons_succ, List.getElem_cons_zero, Act.put, List.setIfInBounds_toArray, List.set_cons_zero, List.set_cons_succ]
      refine wpAnyH_take (i := 4) (v := ?_) rfl (by kernel_rfl) (by kernel_rfl) (by kernel_rfl) (fun _ _ _ h => h) (Or.inl ⟨by rfl, ?_⟩) (by assumption) ?_
      rotate_left
      · intro w hSw; (try dsimp only at hSw); go_simp; (try (with_reducible rfl))
      try simp only [List.getElem_toArray, List.getElem_cons_succ, List.getElem_cons_zero, Act.put, List.setIfInBounds_toArray, List.set_cons_zero, List.set_cons_succ]
      refine wpAnyH_take (i := 5) (v := ?_) rfl (by kernel_rfl) (by kernel_rfl) (by kernel_rfl) (fun _ _ _ h => h) (Or.inl ⟨by rfl, ?_⟩) (by assumption) ?_
      rotate_left
      · intro w hSw; (try dsimp only at hSw); go_simp; (try (with_reducible rfl))
      try simp only [List.getElem_toArray, List.getElem_cons_succ, List.getElem_cons_zero, Act.put, List.setIfInBounds_toArray, List.set_cons_zero, List.set_cons_succ]
      refine wpAnyH_take (i := 6) (v := ?_) rfl (by kernel_rfl) (by kernel_rfl) (by kernel_rfl) (fun _ _ _ h => h) (Or.inl ⟨by rfl, ?_⟩) (by assumption) ?_
      rotate_left
      · intro w hSw; (try dsimp only at hSw); go_simp; (try (with_reducible rfl))
      try simp only [List.getElem_toArray, List.getElem_cons_succ, List.getElem_cons_zero, Act.put, List.setIfInBounds_toArray, List.set_cons_zero, List.set_cons_succ]
      refine wpAnyH_take (i := 7) (v := ?_) rfl (by kernel_rfl) (by kernel_rfl) (by kernel_rfl) (fun _ _ _ h => h) (Or.inl ⟨by rfl, ?_⟩) (by assumption) ?_
      rotate_left
      · intro w hSw; (try dsimp only at hSw); go_simp; (try (with_reducible rfl))
      try simp only [List.getElem_toArray, List.getElem_cons_succ, List.getElem_cons_zero, Act.put, List.setIfInBounds_toArray, List.set_cons_zero, List.set_cons_succ]
      refine wpAnyH_take (i := 8) (v := ?_) rfl (by kernel_rfl) (by kernel_rfl) (by kernel_rfl) (fun _ _ _ h => h) (Or.inl ⟨by rfl, ?_⟩) (by assumption) ?_
      rotate_left
      · intro w hSw; (try dsimp only at hSw); go_simp; (try (with_reducible rfl))
      try simp only [List.getElem_toArray, List.getElem_cons_succ, List.getElem_cons_zero, Act.put, List.setIfInBounds_toArray, List.set_cons_zero, List.set_cons_succ]
      refine wpAnyH_take (i := 9) (v := ?_) rfl (by kernel_rfl) (by kernel_rfl) (by kernel_rfl) (fun _ _ _ h => h) (Or.inl ⟨by rfl, ?_⟩) (by assumption) ?_
      rotate_left
      · intro w hSw; (try dsimp only at hSw); go_simp; (try (with_reducible rfl))
      try simp only [List.getElem_toArray, List.getElem_cons_succ, List.getElem_cons_zero, Act.put, List.setIfInBounds_toArray, List.set_cons_zero, List.set_cons_succ]
      refine wpAnyH_take (i := 10) (v := ?_) rfl (by kernel_rfl) (by kernel_rfl) (by kernel_rfl) (fun _ _ _ h => h) (Or.inl ⟨by rfl, ?_⟩) (by assumption) ?_
      rotate_left
      · intro w hSw; (try dsimp only at hSw); go_simp; (try (with_reducible rfl))
      try simp only [List.getElem_toArray, List.getElem_cons_succ, List.getElem_cons_zero, Act.put, List.setIfInBounds_toArray, List.set_cons_zero, List.set_cons_succ]
      refine wpAnyH_take (i := 11) (v := ?_) rfl (by kernel_rfl) (by kernel_rfl) (by kernel_rfl) (fun _ _ _ h => h) (Or.inl ⟨by rfl, ?_⟩) (by assumption) ?_
      rotate_left
      · intro w hSw; (try dsimp only at hSw); go_simp; (try (with_reducible rfl))
      try simp only [List.getElem_toArray, List.getElem_cons_succ, List.getElem_cons_zero, Act.put, List.setIfInBounds_toArray, List.set_cons_zero, List.set_cons_succ]
      refine wpAnyH_take (i := 12) (v := ?_) rfl (by kernel_rfl) (by kernel_rfl) (by kernel_rfl) (fun _ _ _ h => h) (Or.inl ⟨by rfl, ?_⟩) (by assumption) ?_
      rotate_left
      · intro w hSw; (try dsimp only at hSw); go_simp; (try (with_reducible rfl))
      try simp only [List.getElem_toArray, List.getElem_cons_succ, List.getElem_cons_zero, Act.put, List.setIfInBounds_toArray, List.set_cons_zero, List.set_cons_succ]
      refine wpAnyH_take (i := 13) (v := ?_) rfl (by kernel_rfl) (by kernel_rfl) (by kernel_rfl) (fun _ _ _ h => h) (Or.inl ⟨by rfl, ?_⟩) (by assumption) ?_
      rotate_left
      · intro w hSw; (try dsimp only at hSw); go_simp; (try (with_reducible rfl))
      try simp only [List.getElem_toArray, List.getElem_cons_succ, List.getElem_cons_zero, Act.put, List.setIfInBounds_toArray, List.set_cons_zero, List.set_cons_succ]
      refine wpAnyH_done (by kernel_rfl) ?_ _
      go_wp2
      go_ret2
      exact ⟨by rw [HE.out]; rfl, 1, by simp [World.drewN, World.drew]⟩

end Go.Proofs.YtjjflbnopphciaaGreatDoor

namespace Go.Proofs.YtjjflbnopphciaaGreatDoor
open Go.RowKit

def BridgeRes (base g n cap : Nat) (ys : List Int) (w : World) (e : Ending) (w' : World) : Prop :=
  (∃ v, e = .returned v) ∧ w'.ownsRow base 3 1 (.slice (some ⟨g, 0, none⟩) n cap) n (ys.map (Value.int .i64)) ∧ w.grownBy w' (some g)
def BridgeI (base g n cap : Nat) (ys : List Int) (w0 wr : World) (s : Nat) (lo hi : Int) : Prop :=
  wr.ownsRow base 3 1 (.slice (some ⟨g, 0, none⟩) n cap) n (ys.map (Value.int .i64)) ∧ w0.grownBy wr (some g) ∧ Bk wr s 51 #[.int .i64 lo, .int .i64 hi]
theorem grownRefl (w : World) (r : Option Nat) : w.grownBy w r := World.grownBy.refl w r
theorem grownDrew (w : World) (r : Option Nat) : w.grownBy w.drew r := ⟨rfl, rfl, rfl, Nat.le_refl _, fun _ _ _ => rfl⟩
theorem grownDrewN (w : World) (k : Nat) (r : Option Nat) : w.grownBy (w.drewN k) r := ⟨rfl, rfl, rfl, Nat.le_refl _, fun _ _ _ => rfl⟩
theorem rd_of_ownS {w : World} {base g n cap : Nat} {xs : List Int} (h : w.ownsRow base 3 1 (.slice (some ⟨g, 0, none⟩) n cap) n (xs.map (Value.int .i64))) : RdI w (some ⟨g, 0, none⟩) n xs := by
  obtain ⟨A, c, e, _, hr⟩ := rd_of_own h
  cases e
  exact hr

set_option maxRecDepth 100000 in
set_option maxHeartbeats 2000000 in
theorem bridge_any (base g n cap lo hi : Nat) (xs : List Int) (w : World) (ho : w.ownsRow base 3 1 (.slice (some ⟨g, 0, none⟩) n cap) n (xs.map (Value.int .i64))) (hsm : Small xs) (hn : n ≤ 1000) (h1 : lo ≤ hi) (h2 : hi < n) (h3 : ¬ (lo = 0 ∧ hi + 1 = n)) :
    Calls Tryz.prog 58 #[.slice (some ⟨g, 0, none⟩) n cap, .agg #[.int .i64 lo, .int .i64 hi]] w (BridgeRes base g n cap (bridgeL xs lo hi) w) := by
  have hln : xs.length = n := by have := ho.1; simpa using this
  have hglt := (ho.lt g rfl).2
  have HO := Lib.hid ho
  have HSM := Lib.hid hsm
  have HLN := Lib.hid hln
  have HS0 : Hid ((fun w' : World => w'.cell? ⟨w.heap.size, 0, none⟩ = some (.int .i64 lo) ∧ w'.cell? ⟨w.heap.size, 1, none⟩ = some (.int .i64 hi)) (w.alloc (.cells #[.int .i64 lo, .int .i64 hi] 51)).drew) := ⟨by simp [go_sem], by simp [go_sem]⟩
  have hw1 : IntKind.i64.wrap ((lo : Int) - 1) = (lo : Int) - 1 := IntWalk.i64_in _ (by omega)
  have hw2 : IntKind.i64.wrap ((hi : Int) + 1) = (hi : Int) + 1 := IntWalk.i64_in _ (by omega)
  have C := Lib.hid (endsOf_any g n cap lo hi xs (w.alloc (.cells #[.int .i64 lo, .int .i64 hi] 51)).drew (rd_of_ownS (ho.alloc _)) (by omega) h1 h2 h3)
  clear ho hsm hln
  go_enter Tryz.func58, Tryz.ntmps58
  go_wp2_with fail
  refine wp_region_held_drew (S := (fun w' : World => w'.cell? ⟨w.heap.size, 0, none⟩ = some (.int .i64 lo) ∧ w'.cell? ⟨w.heap.size, 1, none⟩ = some (.int .i64 hi))) (by kernel_rfl) ?_ ?_
  · exact HS0.out
  intro hHeld
  refine wpAnyH_take (i := 0) (v := ?_) rfl (by kernel_rfl) (by kernel_rfl) (by kernel_rfl) (fun _ _ _ h => h) (Or.inl ⟨by rfl, ?_⟩) (by assumption) ?_
  rotate_left
  · intro w hSw; (try dsimp only at hSw); go_simp; (try (with_reducible rfl))
  try simp only [List.getElem_toArray, List.getElem_cons_succ, List.getElem_cons_zero, Act.put, List.setIfInBounds_toArray, List.set_cons_zero, List.set_cons_succ]
  refine wpAnyH_take (i := 1) (v := ?_) rfl (by kernel_rfl) (by kernel_rfl) (by kernel_rfl) (fun _ _ _ h => h) (Or.inl ⟨by rfl, ?_⟩) (by assumption) ?_
  rotate_left
  · intro w hSw; (try dsimp only at hSw); go_simp; (try (with_reducible rfl))
  try simp only [List.getElem_toArray, List.getElem_cons_succ, List.getElem_cons_zero, Act.put, List.setIfInBounds_toArray, List.set_cons_zero, List.set_cons_succ]
  refine wpAnyH_take (i := 2) (v := ?_) rfl (by kernel_rfl) (by kernel_rfl) (by kernel_rfl) (fun _ _ _ h => h) (Or.inl ⟨by rfl, ?_⟩) (by assumption) ?_
  rotate_left
  · intro w hSw; (try dsimp only at hSw); go_simp; (try (with_reducible rfl))
  try simp only [List.getElem_toArray, List.getElem_cons_succ, List.getElem_cons_zero, Act.put, List.setIfInBounds_toArray, List.set_cons_zero, List.set_cons_succ]
  refine wpAnyH_take (i := 3) (v := ?_) rfl (by kernel_rfl) (by kernel_rfl) (by kernel_rfl) (fun _ _ _ h => h) (Or.inl ⟨by rfl, ?_⟩) (by assumption) ?_
  rotate_left
  · intro w hSw; (try dsimp only at hSw); go_simp; (try (with_reducible rfl))
  try simp only [List.getElem_toArray, List.getElem_cons_succ, List.getElem_cons_zero, Act.put, List.setIfInBounds_toArray, List.set_cons_zero, List.set_cons_succ]
  refine wpAnyH_take (i := 4) (v := ?_) rfl (by kernel_rfl) (by kernel_rfl) (by kernel_rfl) (fun _ _ _ h => h) (Or.inl ⟨by rfl, ?_⟩) (by assumption) ?_
  rotate_left
  · intro w hSw; (try dsimp only at hSw); go_simp; (try (with_reducible rfl))
  try simp only [List.getElem_toArray, List.getElem_cons_succ, List.getElem_cons_zero, Act.put, List.setIfInBounds_toArray, List.set_cons_zero, List.set_cons_succ]
  refine wpAnyH_take (i := 5) (v := ?_) rfl (by kernel_rfl) (by kernel_rfl) (by kernel_rfl) (fun _ _ _ h => h) (Or.inl ⟨by rfl, ?_⟩) (by assumption) ?_
  rotate_left
  · intro w hSw; (try dsimp only at hSw); go_simp; (try (with_reducible rfl))
  try simp only [List.getElem_toArray, List.getElem_cons_succ, List.getElem_cons_zero, Act.put, List.setIfInBounds_toArray, List.set_cons_zero, List.set_cons_succ]
  refine wpAnyH_take (i := 6) (v := ?_) rfl (by kernel_rfl) (by kernel_rfl) (by kernel_rfl) (fun _ _ _ h => h) (Or.inl ⟨by rfl, ?_⟩) (by assumption) ?_
  rotate_left
  · intro w hSw; (try dsimp only at hSw); go_simp; (try (with_reducible rfl))
  try simp only [List.getElem_toArray, List.getElem_cons_succ, List.getElem_cons_zero, Act.put, List.setIfInBounds_toArray, List.set_cons_zero, List.set_cons_succ]
  refine wpAnyH_take (i := 7) (v := ?_) rfl (by kernel_rfl) (by kernel_rfl) (by kernel_rfl) (fun _ _ _ h => h) (Or.inl ⟨by rfl, ?_⟩) (by assumption) ?_
  rotate_left
  · intro w hSw; (try dsimp only at hSw); go_simp; (try (with_reducible rfl))
  try simp only [List.getElem_toArray, List.getElem_cons_succ, List.getElem_cons_zero, Act.put, List.setIfInBounds_toArray, List.set_cons_zero, List.set_cons_succ]
  refine wpAnyH_done (by kernel_rfl) ?_ _
  clear hHeld HS0
  have hq0 : (w.alloc (.cells #[.int .i64 lo, .int .i64 hi] 51)).cell? ⟨w.heap.size, 0, none⟩ = some (.int .i64 lo) := by simp [go_sem]
  go_wp2_with fail
  refine C.out.mono ?_
  rintro e w' ⟨rfl, kk, rfl⟩
  obtain ⟨⟨p1, p2⟩, hp⟩ : ∃ p, endsL xs lo hi = p := ⟨_, rfl⟩
  have hpb : (-1000000 ≤ p1 ∧ p1 ≤ 1000000) ∧ -1000000 ≤ p2 ∧ p2 ≤ 1000000 := by have := HSM.out.ends lo hi; rw [hp] at this; exact this
  rw [hp]
  have HP := Lib.hid hp
  dsimp only
  clear hp C hq0
  have hb1 := Bk.new w 51 #[.int .i64 lo, .int .i64 hi]
  obtain ⟨W1, hW1⟩ : ∃ W1, (((w.alloc (.cells #[.int .i64 lo, .int .i64 hi] 51)).drew.alloc (.cells #[.int .i64 lo, .int .i64 hi] 51)).drewN kk) = W1 := ⟨_, rfl⟩
  rw [hW1]
  have HI0 : Hid (BridgeI base g n cap xs w W1 w.heap.size lo hi) := by
    rw [← hW1]
    refine ⟨(HO.out.alloc _).drew.alloc _, ?_, ((hb1.drew).alloc _).drewN kk⟩
    exact (((World.grownBy_alloc w _ (some g)).trans (grownDrew _ _)).trans (World.grownBy_alloc _ _ (some g))).trans (grownDrewN _ _ _)
  clear hW1 hb1
  have r0 : W1.cell? ⟨w.heap.size, 0, none⟩ = some (.int .i64 lo) := by rw [HI0.out.2.2.cell]; rfl
  go_wp2_with fail
  clear r0
  go_loopw [8] (fun i wr => ∃ t : Nat, lo ≤ t ∧ t ≤ hi + 1 ∧ i = .int .i64 t ∧ Hid (BridgeI base g n cap (bridgeTo (p1, p2) xs lo hi (t - lo)) w wr w.heap.size lo hi)) (fun i _ => hi + 1 - (intOf i).toNat)
  case atStart => exact ⟨lo, Nat.le_refl _, by omega, rfl, by show BridgeI _ _ _ _ _ _ _ _ _ _; rw [Nat.sub_self, bridgeTo_zero]; exact HI0.out⟩
  case round =>
    obtain ⟨t, ht1, ht2, rfl, HI⟩ := hrel
    have c0 : wr.cell? ⟨w.heap.size, 0, none⟩ = some (.int .i64 lo) := by rw [HI.out.2.2.cell]; rfl
    have c1 : wr.cell? ⟨w.heap.size, 1, none⟩ = some (.int .i64 hi) := by rw [HI.out.2.2.cell]; rfl
    by_cases hlt : t ≤ hi
    · have hltI : (t : Int) ≤ (hi : Int) := by omega
      obtain ⟨y, hy⟩ : ∃ y, lerp p1 p2 ((t : Int) - ((lo : Int) - 1)) (((hi : Int) + 1) - ((lo : Int) - 1)) = y := ⟨_, rfl⟩
      have hyb : -1000000 ≤ y ∧ y ≤ 1000000 := by
        have := bridgeAt_bd (p := (p1, p2)) hpb (lo := lo) (hi := hi) (i := t) ht1 hlt
        unfold bridgeAt at this
        rw [hy] at this
        exact this
      have hset := bridgeTo_set (p1, p2) xs lo hi (t - lo)
      rw [show lo + (t - lo) = t by omega, show t - lo + 1 = t + 1 - lo by omega] at hset
      have hba : bridgeAt (p1, p2) lo hi t = y := hy
      rw [hba] at hset
      have HSET := Lib.hid hset
      have hmb := mul_bd (x := p2 - p1) (t := (t : Int) - ((lo : Int) - 1)) (M := 2000000) (T := 2000) (by omega) (by omega) (by omega) (by omega) (by omega)
      have HR : Hid (∀ W, Calls Tryz.prog 86 #[.int .i64 ((p2 - p1) * ((t : Int) - ((lo : Int) - 1))), .int .i64 (((hi : Int) + 1) - ((lo : Int) - 1))] W fun e w' => e = .returned (.int .i64 (y - p1)) ∧ W = w') := fun W => by
        have e : y - p1 = (p2 - p1) * ((t : Int) - ((lo : Int) - 1)) / (((hi : Int) + 1) - ((lo : Int) - 1)) := by rw [← hy]; unfold lerp; omega
        rw [e]
        exact roundedDown_any _ _ (by omega) (by omega) W
      have hs3 : IntKind.i64.wrap ((p2 - p1) * ((t : Int) - ((lo : Int) - 1))) = (p2 - p1) * ((t : Int) - ((lo : Int) - 1)) := IntWalk.i64_in _ (by omega)
      have hs5 : p1 + (y - p1) = y := by omega
      have hold := HI.out.1.cellAt t (by omega)
      have hfz := HI.out.1.frozenAt t
      rw [List.getElem?_map, List.getElem?_eq_getElem (by rw [bridgeTo_length, HLN.out]; omega)] at hold
      obtain ⟨o, hoo⟩ : ∃ o, (bridgeTo (p1, p2) xs lo hi (t - lo))[t]'(by rw [bridgeTo_length, HLN.out]; omega) = o := ⟨_, rfl⟩
      rw [hoo] at hold
      have htn : (t : Int) < (n : Int) := by omega
      have hgs : w.heap.size ≠ g := by omega
      clear hoo hy hset hba hmb
      go_wp2_with fail
      refine (HR.out _).mono ?_
      rintro e w' ⟨rfl, rfl⟩
      have HF : Hid (BridgeI base g n cap (bridgeTo (p1, p2) xs lo hi (t + 1 - lo)) w (wr.setCell ⟨g, t, none⟩ (.int .i64 y)) w.heap.size lo hi) := by
        obtain ⟨k1, k2⟩ := HI.out.1.stored t (.int .i64 y)
        have e : ((bridgeTo (p1, p2) xs lo hi (t - lo)).map (Value.int .i64)).set t (.int .i64 y) = (bridgeTo (p1, p2) xs lo hi (t + 1 - lo)).map (Value.int .i64) := by rw [← HSET.out, List.map_set]
        rw [e] at k1
        exact ⟨k1, HI.out.2.1.trans k2, HI.out.2.2.far _ (by dsimp only; omega) _⟩
      clear HR hs3 HSET
      go_wp2
      go_roundw
      case rel => exact ⟨t + 1, by omega, by omega, by go_num, HF.out⟩
      case measure => simp [intOf]; omega
    · have hltI : ¬ (t : Int) ≤ (hi : Int) := by omega
      obtain rfl : t = hi + 1 := by omega
      go_wp2
      refine bodyPost_ret (results_none rfl _ _ _) rfl ?_
      refine ⟨⟨_, rfl⟩, ?_, HI.out.2.1⟩
      have h := HI.out.1
      unfold bridgeL
      rw [HP.out]
      exact h

end Go.Proofs.YtjjflbnopphciaaGreatDoor

