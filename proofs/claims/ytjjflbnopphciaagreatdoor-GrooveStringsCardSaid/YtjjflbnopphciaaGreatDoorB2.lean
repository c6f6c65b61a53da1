import Derived.Test.YtjjflbnopphciaaGreatDoorB1
import Derived.Laws.Cover3
namespace Go.Proofs.YtjjflbnopphciaaGreatDoor
open Go.RowKit

theorem containsR_any (g n c : Nat) (gs : List (Int × Int)) (a b : Int) (w : World) (hr : RdR w g n gs) (hn : n ≤ 1000000000) :
    Calls Tryz.prog 84 #[.slice (some ⟨g, 0, none⟩) n c, .agg #[.int .i64 a, .int .i64 b]] w fun e w' => e = .returned (.bool (decide ((a, b) ∈ gs))) ∧ Below w.heap.size w w' := by
  have hb0 := (Below.refl w.heap.size w).alloc (Nat.le_refl _) (.cells #[.int .i64 a, .int .i64 b] 51)
  have C := Lib.hid (indexR_any g n c gs a b _ (hr.below hb0) hn)
  have HB0 := Lib.hid hb0
  clear hr hb0
  go_enter Tryz.func84, Tryz.ntmps84
  go_wp2_with fail
  refine C.out.mono ?_
  rintro e w1 ⟨r, rfl, hm, hr1, hb1⟩
  have HM := Lib.hid hm
  have HB := Lib.hid (HB0.out.trans (hb1.mono HB0.out.size))
  clear hm hb1 C
  go_wp2
  go_ret
  refine ⟨?_, HB.out⟩
  have : decide (0 ≤ r) = decide ((a, b) ∈ gs) := decide_eq_decide.2 HM.out
  rw [← this]; rfl

theorem nilCmp (a : Option Addr) (n c : Nat) (W : World) : (binOp .eql 22 (.slice a n c) (.slice none 0 0)).run Tryz.prog W = .ok (.bool a.isNone) W := by
  have h := run_equal_slice_nil (P := Tryz.prog) W 22 3 a n c Tryz.underlying22
  simp only [binOp]
  simp [h]

set_option maxRecDepth 100000 in
theorem clone_any (A : Option Addr) (n c : Nat) (xs : List Int) (w : World) (hr : RdI w A n xs) (hn : n ≤ 1000000) :
    Calls Tryz.prog 57 #[.slice A n c] w (OwnS w xs) := by
  obtain ⟨i0, hi0, hz0, hz1, hz2⟩ := info_parts intInfo'
  rcases A with _ | ad
  · have hnc := nilCmp none 0
    have h0 : n = 0 := by
      rcases Nat.eq_zero_or_pos n with h | h
      · exact h
      · obtain ⟨_, h1, _⟩ := hr.2 h; cases h1
    have hx : xs = [] := List.eq_nil_of_length_eq_zero (by rw [hr.1, h0])
    subst hx h0
    clear hr
    go_enter Tryz.func57, Tryz.ntmps57
    go_wp2
    go_ret
    exact ⟨⟨_, rfl, World.ownsRow_nil _ _ _ _⟩, Below.refl _ _⟩
  · have hnc := nilCmp (some ad) n
    have hl := hr.1
    have hsrc : Hid (∀ j u, (xs.map (Value.int .i64))[j]? = some u → (w.alloc (.cells #[] 3)).cell? (ad.add j) = some u) := by
      intro j u hu
      have hj : j < n := by
        rcases Nat.lt_or_ge j n with h | h
        · exact h
        · rw [List.getElem?_eq_none (by simp; omega)] at hu; cases hu
      obtain ⟨ad', e, _, hc⟩ := hr.2 (by omega)
      cases e
      have := cellA (.cells #[] 3) (hc j hj)
      rw [this]
      rw [List.getElem?_map, List.getElem?_eq_getElem (by omega)] at hu
      rw [List.getD_eq_getElem?_getD, List.getElem?_eq_getElem (by omega)]
      simpa using hu
    have hone : Hid (∀ u ∈ xs.map (Value.int .i64), u.oneCell' = true) := by
      intro u hu
      obtain ⟨x, _, rfl⟩ := List.mem_map.1 hu
      rfl
    have ho : Hid ((w.alloc (.cells #[] 3)).ownsRow w.heap.size 3 1 (.slice (some ⟨w.heap.size, 0, none⟩) 0 0) 0 ([] : List Value)) := World.ownsRow_lit w #[] 0 (Nat.le_refl _) (by simp only [maxLen]; omega) rfl
    have HL := Lib.hid hl
    clear hr hl
    obtain ⟨news, hnews⟩ : ∃ news, xs.map (Value.int .i64) = news := ⟨_, rfl⟩
    have hnl : Hid (news.length = n * 1) := by show _ = _; rw [← hnews, List.length_map, HL.out, Nat.mul_one]
    rw [hnews] at hsrc hone
    have HN := Lib.hid hnews
    clear hnews
    go_enter Tryz.func57, Tryz.ntmps57
    go_wp2_with (at_builtin; refine wpList_append_own _ rfl (.tmp 5) (.tmp 6) 22 rfl w.heap.size 3 i0 _ 1 8 Tryz.underlying22 hi0 hz0 hz1 hz2 rfl (by decide) _ _ _ rfl ho.out ad n c news rfl hnl.out hsrc.out hone.out (by unfold maxLen; omega) (by omega) (by simp) ?_)
    intro v' w1 hown' hgrow _
    have HO : Hid (w1.ownsRow w.heap.size 3 1 v' xs.length (xs.map (Value.int .i64))) := by
      show World.ownsRow _ _ _ _ _ _ _
      rw [HN.out, HL.out]
      simpa using hown'
    have HB : Hid (Below w.heap.size w w1) := ((Below.refl _ w).alloc (Nat.le_refl _) _).grown hgrow (by simp) (fun k e => by simp [Value.ownBlock] at e; omega)
    clear hown' hgrow
    go_wp2
    go_ret
    exact ⟨⟨_, rfl, HO.out⟩, HB.out⟩

end Go.Proofs.YtjjflbnopphciaaGreatDoor
