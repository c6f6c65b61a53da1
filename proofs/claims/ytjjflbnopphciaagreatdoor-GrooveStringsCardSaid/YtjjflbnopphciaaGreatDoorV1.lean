import Derived.Test.YtjjflbnopphciaaGreatDoorA2
import Derived.Test.YtjjflbnopphciaaGreatDoorV0
namespace Go.Proofs.YtjjflbnopphciaaGreatDoor
open Go.RowKit

theorem within_any (n lo hi : Int) (w : World) :
    Calls Tryz.prog 15 #[.int .i64 n, .int .i64 lo, .int .i64 hi] w fun e w' => e = .returned (.bool (fromB lo hi [n])) ∧ w = w' := by
  by_cases h1 : lo ≤ n
  · go_enter Tryz.func15, Tryz.ntmps15
    go_wp2
    go_ret
    exact ⟨by simp [fromB, h1], rfl⟩
  · go_enter Tryz.func15, Tryz.ntmps15
    go_wp2
    go_ret
    exact ⟨by simp [fromB]; omega, rfl⟩

theorem rd_ownN {w : World} {base : Nat} {v : Value} {n : Nat} {xs : List Int} (h : w.ownsRow base 3 1 v n (xs.map (Value.int .i64))) :
    ∃ A c, v = .slice A n c ∧ n ≤ c ∧ RdI w A n xs ∧ (A = none → n = 0 ∧ c = 0) := by
  have h2 := h.2
  obtain ⟨A, c, rfl, hnc, hr⟩ := rd_of_own h
  refine ⟨A, c, rfl, hnc, hr, ?_⟩
  rintro rfl
  rcases h2 with ⟨e, h0⟩ | ⟨g, cap, cur, e, _⟩
  · injection e with _ e1 e2; exact ⟨e1, e2⟩
  · injection e with e; cases e

theorem copyInts_any (A : Option Addr) (n c : Nat) (l : List Int) (w : World) (hA : A = none → n = 0 ∧ c = 0) (hr : RdI w A n l) (hn : n ≤ 1000000) :
    Calls Tryz.prog 8 #[.slice A n c] w (OwnS w l) := by
  have ho : Hid ((w.alloc (.cells #[] 3)).ownsRow w.heap.size 3 1 (.slice (some ⟨w.heap.size, 0, none⟩) 0 0) 0 ([] : List Value)) := World.ownsRow_lit w #[] 0 (Nat.le_refl _) (by unfold maxLen; omega) rfl
  obtain ⟨i0, hi, hz0, hz1, hz2⟩ := info_parts intInfo'
  cases A with
  | none =>
    obtain ⟨rfl, rfl⟩ := hA rfl
    have hl : l = [] := List.eq_nil_of_length_eq_zero hr.1
    subst hl
    clear hA hr
    go_enter Tryz.func8, Tryz.ntmps8
    go_wp2_with (at_builtin; refine wpList_append_own_none rfl (.tmp 3) (.tmp 4) 22 rfl w.heap.size 3 i0 1 Tryz.underlying22 hi _ _ _ rfl ho.out rfl ?_)
    go_ret
    exact ⟨⟨_, rfl, ho.out⟩, (Below.refl _ _).alloc (Nat.le_refl _) _⟩
  | some ad =>
    have HR := Lib.hid hr; clear hr hA
    have hlen : Hid ((l.map (Value.int .i64)).length = n * 1) := by show List.length _ = _; rw [List.length_map]; have := HR.out.1; omega
    have hsrc : Hid (∀ j u, (l.map (Value.int .i64))[j]? = some u → (w.alloc (.cells #[] 3)).cell? (ad.add j) = some u) := by
      intro j u hu
      have hj : j < l.length := by
        have := (List.getElem?_eq_some_iff.1 hu).1
        simpa using this
      have hl := HR.out.1
      obtain ⟨ad', ha, hlt, hc⟩ := HR.out.2 (by omega)
      obtain rfl := Option.some.inj ha
      rw [World.cell?_alloc_lt w _ _ (by rw [addBlock]; exact hlt), hc j (by omega)]
      rw [List.getElem?_map, List.getElem?_eq_getElem hj] at hu
      simp at hu
      rw [← hu]
      simp [List.getD_eq_getElem?_getD, List.getElem?_eq_getElem hj]
    have hone : Hid (∀ u ∈ l.map (Value.int .i64), u.oneCell' = true) := by
      intro u hu
      obtain ⟨x, _, rfl⟩ := List.mem_map.1 hu
      rfl
    obtain ⟨news, hnews⟩ : ∃ news, l.map (Value.int .i64) = news := ⟨_, rfl⟩
    rw [hnews] at hlen hsrc hone
    have HNW := Lib.hid hnews
    clear hnews
    go_enter Tryz.func8, Tryz.ntmps8
    go_wp2_with (at_builtin; refine wpList_append_own _ rfl (.tmp 3) (.tmp 4) 22 rfl w.heap.size 3 i0 _ 1 8 Tryz.underlying22 hi hz0 hz1 hz2 rfl (by decide) _ _ _ rfl ho.out ad n c news rfl hlen.out hsrc.out hone.out (by unfold maxLen; omega) (by omega) (by simp) ?_)
    intro v w2 ho2 hg2 _
    have b2 : Below w.heap.size w w2 := ((Below.refl _ _).alloc (Nat.le_refl _) _).grown hg2 (by simp) (fun g hg => (ho.out.lt g hg).1)
    have o2 := Lib.hid ho2
    have B2 := Lib.hid b2
    clear ho2 hg2 b2
    go_wp2
    go_ret
    refine ⟨⟨_, rfl, ?_⟩, B2.out⟩
    have := o2.out
    rw [HNW.out, HR.out.1]
    simpa using this

set_option maxHeartbeats 1000000 in
theorem refPosErr_any (A : Option Addr) (n c : Nat) (xs : List Int) (w : World) (hr : RdI w A n xs) (hn : n ≤ 9223372036854775806) :
    Calls Tryz.prog 13 #[.slice A n c] w fun e w' => e = .returned (.int .i64 (posE xs)) ∧ w = w' := by
  have HR := Lib.hid hr; clear hr
  have HE : Hid (posE xs = if 200 < n then 8 else if fromB (-1000000) 1000000 xs = true then 0 else 2) := by show _ = _; unfold posE; rw [HR.out.1]
  by_cases h1 : 200 < n
  · have h1I : (200 : Int) < (n : Int) := by omega
    go_enter Tryz.func13, Tryz.ntmps13
    go_wp2
    go_ret
    exact ⟨by rw [HE.out, if_pos h1]; rfl, rfl⟩
  · have h1I : ¬ (200 : Int) < (n : Int) := by omega
    have HE2 : Hid (posE xs = if fromB (-1000000) 1000000 xs = true then 0 else 2) := by show _ = _; rw [HE.out, if_neg h1]
    clear h1 HE
    go_enter Tryz.func13, Tryz.ntmps13
    go_wp2
    go_loop [3] (fun i => ∃ k : Nat, k ≤ n ∧ i = .int .i64 k ∧ Hid (fromB (-1000000) 1000000 xs = fromB (-1000000) 1000000 (xs.drop k))) (fun i => n - (intOf i).toNat)
    case atStart => exact ⟨0, Nat.zero_le _, rfl, rfl⟩
    case round =>
      obtain ⟨k, hk, rfl, HF⟩ := hrel
      by_cases hlt : k < n
      · obtain ⟨ad, ha, _, hc⟩ := HR.out.2 (by omega)
        have hck := hc k hlt
        clear hc
        subst ha
        obtain ⟨x, hx⟩ : ∃ x, xs.getD k 0 = x := ⟨_, rfl⟩
        have hs := fromB_step (-1000000) 1000000 xs k (by have := HR.out.1; omega)
        rw [hx] at hck hs
        have hs2 : fromB (-1000000) 1000000 (xs.drop k) = (fromB (-1000000) 1000000 [x] && fromB (-1000000) 1000000 (xs.drop (k + 1))) := by rw [hs]; simp [fromB]
        obtain ⟨t, ht⟩ : ∃ t, fromB (-1000000) 1000000 [x] = t := ⟨_, rfl⟩
        rw [ht] at hs2
        have C := Lib.hid (within_any x (-1000000) 1000000 w)
        rw [ht] at C
        have HS := Lib.hid hs2; clear hs hs2 hx ht
        have hkI : (k : Int) < (n : Int) := by omega
        cases t
        · go_wp2_with (go_at_call 15; refine C.out.mono ?_; rintro e w' ⟨rfl, rfl⟩)
          go_ret
          exact ⟨by rw [HE2.out, HF.out, HS.out]; rfl, rfl⟩
        · go_wp2_with (go_at_call 15; refine C.out.mono ?_; rintro e w' ⟨rfl, rfl⟩)
          go_round
          case rel => exact ⟨k + 1, by omega, by go_num, by show _ = _; rw [HF.out, HS.out]; rfl⟩
          case measure => simp [intOf]; omega
      · obtain rfl : n = k := by omega
        go_wp2
        go_ret
        exact ⟨by rw [HE2.out, HF.out, List.drop_eq_nil_of_le (by have := HR.out.1; omega)]; rfl, rfl⟩

/-- The error of positions of which there is at least one. -/
def turnErr (xs : List Int) : Int := if posE xs = 0 then (if xs.length = 0 then 10 else 0) else posE xs
theorem checkTurn_any (A : Option Addr) (n c : Nat) (xs : List Int) (w : World) (hr : RdI w A n xs) (hn : n ≤ 9223372036854775806) :
    Calls Tryz.prog 59 #[.slice A n c] w fun e w' => e = .returned (.int .i64 (turnErr xs)) ∧ w = w' := by
  have C := Lib.hid (checkPositions_any A n c xs w hr hn)
  have HE : Hid (turnErr xs = if posE xs = 0 then (if n = 0 then 10 else 0) else posE xs) := by show _ = _; unfold turnErr; rw [hr.1]
  obtain ⟨E, hE⟩ : ∃ E, posE xs = E := ⟨_, rfl⟩
  have HE2 : Hid (turnErr xs = if E = 0 then (if n = 0 then 10 else 0) else E) := by show _ = _; rw [HE.out, hE]
  rw [hE] at C
  clear hE hr HE
  by_cases h0 : E = 0
  · subst h0
    by_cases hn0 : n = 0
    · subst hn0
      go_enter Tryz.func59, Tryz.ntmps59
      go_wp2_with (go_at_call 39; refine C.out.mono ?_; rintro e w' ⟨rfl, rfl⟩)
      go_ret
      exact ⟨by rw [HE2.out]; rfl, rfl⟩
    · have h1 : ((n : Int) == 0) = false := by rw [beq_eq_false_iff_ne]; omega
      go_enter Tryz.func59, Tryz.ntmps59
      go_wp2_with (go_at_call 39; refine C.out.mono ?_; rintro e w' ⟨rfl, rfl⟩)
      go_ret
      exact ⟨by rw [HE2.out]; simp [hn0], rfl⟩
  · have h1 : (E == 0) = false := by rw [beq_eq_false_iff_ne]; exact h0
    go_enter Tryz.func59, Tryz.ntmps59
    go_wp2_with (go_at_call 39; refine C.out.mono ?_; rintro e w' ⟨rfl, rfl⟩)
    go_ret
    exact ⟨by first | (rw [HE2.out, if_neg h0]; rfl) | (rw [HE2.out]; simp [h0]), rfl⟩

theorem size_any (n : Int) (w : World) (h : -4611686018427387904 ≤ n ∧ n ≤ 4611686018427387904) :
    Calls Tryz.prog 71 #[.int .i64 n] w fun e w' => e = .returned (.int .i64 (if n < 0 then -n else n)) ∧ w = w' := by
  have hw : IntKind.i64.wrap (-n) = -n := IntWalk.i64_in _ (by omega)
  by_cases h0 : n < 0
  · have h1 : n < -n := by omega
    go_enter Tryz.func71, Tryz.ntmps71
    go_wp2
    go_ret
    exact ⟨by first | rfl | (rw [if_pos h0]; rfl), rfl⟩
  · have h1 : ¬ n < -n := by omega
    go_enter Tryz.func71, Tryz.ntmps71
    go_wp2
    go_ret
    exact ⟨by first | rfl | (rw [if_neg h0]; rfl), rfl⟩

theorem long_any (A : Option Addr) (n c : Nat) (w : World) :
    Calls Tryz.prog 6 #[.slice A n c] w fun e w' => e = .returned (.bool (decide (n ≤ 203))) ∧ w = w' := by
  by_cases h0 : n ≤ 203
  · have h1 : (n : Int) ≤ 203 := by omega
    go_enter Tryz.func6, Tryz.ntmps6
    go_wp2
    go_ret
    exact ⟨by first | rfl | (rw [decide_eq_true h0]; rfl), rfl⟩
  · have h1 : ¬ (n : Int) ≤ 203 := by omega
    go_enter Tryz.func6, Tryz.ntmps6
    go_wp2
    go_ret
    exact ⟨by first | rfl | (rw [decide_eq_false h0]; rfl), rfl⟩

end Go.Proofs.YtjjflbnopphciaaGreatDoor
