import Derived.Test.YtjjflbnopphciaaGreatDoorH4
namespace Go.Proofs.YtjjflbnopphciaaGreatDoor
open Go.RowKit

/-- The slice '.slice A n c' reads as the rows. -/
def RdG (w : World) (A : Option Addr) (n : Nat) (rows : List (List Int)) : Prop :=
  rows.length = n ∧ (0 < n → ∃ ad, A = some ad ∧ ad.block < w.heap.size ∧ ∀ j, j < n → ∃ B m c, w.cell? (ad.add j) = some (.slice B m c) ∧ RdI w B m (rows.getD j []) ∧ m ≤ 9223372036854775806)

theorem RdG.below {w w' : World} {A : Option Addr} {n : Nat} {rows : List (List Int)} (h : RdG w A n rows) (hb : Below w.heap.size w w') : RdG w' A n rows := by
  refine ⟨h.1, fun hn => ?_⟩
  obtain ⟨ad, e, hlt, hc⟩ := h.2 hn
  refine ⟨ad, e, Nat.lt_of_lt_of_le hlt hb.size, fun j hj => ?_⟩
  obtain ⟨B, m, c, h1, h2, h3⟩ := hc j hj
  exact ⟨B, m, c, (hb.cell (by rw [addBlock]; exact hlt)).trans h1, h2.below hb, h3⟩

/-- The error of one row, of all rows: the first one's. -/
def rowE (cols : Nat) (lo hi : Int) (r : List Int) : Int := if r.length = cols then (if fromB lo hi r = true then 0 else 2) else 10
def rowsE (cols : Nat) (lo hi : Int) : List (List Int) → Int
  | [] => 0
  | r :: rs => if rowE cols lo hi r = 0 then rowsE cols lo hi rs else rowE cols lo hi r
theorem rowsE_step (cols : Nat) (lo hi : Int) (rows : List (List Int)) (k : Nat) (hk : k < rows.length) :
    rowsE cols lo hi (rows.drop k) = if rowE cols lo hi (rows.getD k []) = 0 then rowsE cols lo hi (rows.drop (k + 1)) else rowE cols lo hi (rows.getD k []) := by
  rw [List.drop_eq_getElem_cons hk]
  simp only [rowsE, List.getD_eq_getElem?_getD, List.getElem?_eq_getElem hk, Option.getD_some]

set_option maxRecDepth 100000 in
set_option maxHeartbeats 1000000 in
theorem checkRows_any (A : Option Addr) (n c : Nat) (rows : List (List Int)) (cols : Nat) (lo hi : Int) (w : World) (hr : RdG w A n rows) (hn : n ≤ 9223372036854775806) :
    Calls Tryz.prog 93 #[.slice A n c, .int .i64 cols, .int .i64 lo, .int .i64 hi] w fun e w' => e = .returned (.int .i64 (rowsE cols lo hi rows)) ∧ w = w' := by
  have HR := Lib.hid hr; clear hr
  go_enter Tryz.func93, Tryz.ntmps93
  go_wp2
  go_loop [13] (fun i => ∃ k : Nat, k ≤ n ∧ i = .int .i64 k ∧ Hid (rowsE cols lo hi rows = rowsE cols lo hi (rows.drop k))) (fun i => n - (intOf i).toNat)
  case atStart => exact ⟨0, Nat.zero_le _, rfl, rfl⟩
  case round =>
    obtain ⟨k, hk, rfl, HE⟩ := hrel
    by_cases hlt : k < n
    · obtain ⟨ad, ha, _, hc⟩ := HR.out.2 (by omega)
      obtain ⟨B, m, c', hck, hrow, hm⟩ := hc k hlt
      clear hc
      subst ha
      obtain ⟨x, hx⟩ : ∃ x, rows.getD k [] = x := ⟨_, rfl⟩
      have hs := rowsE_step cols lo hi rows k (by have := HR.out.1; omega)
      rw [hx] at hrow hs
      have hxm : x.length = m := hrow.1
      have C := Lib.hid (areFrom_any B m c' x lo hi w hrow hm)
      clear hrow hx
      obtain ⟨t, ht⟩ : ∃ t, fromB lo hi x = t := ⟨_, rfl⟩
      rw [ht] at C
      have HS := Lib.hid hs; clear hs
      have HT := Lib.hid ht; clear ht
      have HXM := Lib.hid hxm; clear hxm
      have hkI : (k : Int) < (n : Int) := by omega
      by_cases h1 : m = cols
      · subst h1
        have h1b : ((m : Int) != (m : Int)) = false := bne_self_eq_false' _
        have hE : Hid (rowE m lo hi x = if t = true then 0 else 2) := by
          show rowE m lo hi x = _
          unfold rowE
          rw [if_pos HXM.out, HT.out]
        cases t
        · go_wp2_with (go_at_call 45; refine C.out.mono ?_; rintro e w' ⟨rfl, rfl⟩)
          go_ret
          exact ⟨by rw [HE.out, HS.out, hE.out]; simp, rfl⟩
        · go_wp2_with (go_at_call 45; refine C.out.mono ?_; rintro e w' ⟨rfl, rfl⟩)
          go_round
          case rel => exact ⟨k + 1, by omega, by go_num, by show _ = _; rw [HE.out, HS.out, hE.out]; simp⟩
          case measure => simp [intOf]; omega
      · have h1b : ((m : Int) != (cols : Int)) = true := by rw [bne_iff_ne]; omega
        have hE : Hid (rowE cols lo hi x = 10) := by
          show rowE cols lo hi x = _
          unfold rowE
          rw [if_neg (by rw [HXM.out]; exact h1)]
        go_wp2
        go_ret
        exact ⟨by rw [HE.out, HS.out, hE.out]; rfl, rfl⟩
    · obtain rfl : n = k := by omega
      go_wp2
      go_ret
      exact ⟨by rw [HE.out, List.drop_eq_nil_of_le (by have := HR.out.1; omega)]; rfl, rfl⟩

set_option maxRecDepth 100000 in
set_option maxHeartbeats 1000000 in
theorem checkRowsS_any (A : Option Addr) (n c : Nat) (rows : List (List Int)) (cols : Nat) (lo hi : Int) (w : World) (hr : RdG w A n rows) (hn : n ≤ 9223372036854775806) :
    Calls Tryz.prog 113 #[.slice A n c, .int .i64 cols, .int .i64 lo, .int .i64 hi] w fun e w' => e = .returned (.int .i64 (rowsE cols lo hi rows)) ∧ w = w' := by
  have HR := Lib.hid hr; clear hr
  go_enter Tryz.func113, Tryz.ntmps113
  go_wp2
  go_loop [13] (fun i => ∃ k : Nat, k ≤ n ∧ i = .int .i64 k ∧ Hid (rowsE cols lo hi rows = rowsE cols lo hi (rows.drop k))) (fun i => n - (intOf i).toNat)
  case atStart => exact ⟨0, Nat.zero_le _, rfl, rfl⟩
  case round =>
    obtain ⟨k, hk, rfl, HE⟩ := hrel
    by_cases hlt : k < n
    · obtain ⟨ad, ha, _, hc⟩ := HR.out.2 (by omega)
      obtain ⟨B, m, c', hck, hrow, hm⟩ := hc k hlt
      clear hc
      subst ha
      obtain ⟨x, hx⟩ : ∃ x, rows.getD k [] = x := ⟨_, rfl⟩
      have hs := rowsE_step cols lo hi rows k (by have := HR.out.1; omega)
      rw [hx] at hrow hs
      have hxm : x.length = m := hrow.1
      have C := Lib.hid (areFrom_any B m c' x lo hi w hrow hm)
      clear hrow hx
      obtain ⟨t, ht⟩ : ∃ t, fromB lo hi x = t := ⟨_, rfl⟩
      rw [ht] at C
      have HS := Lib.hid hs; clear hs
      have HT := Lib.hid ht; clear ht
      have HXM := Lib.hid hxm; clear hxm
      have hkI : (k : Int) < (n : Int) := by omega
      by_cases h1 : m = cols
      · subst h1
        have h1b : ((m : Int) != (m : Int)) = false := bne_self_eq_false' _
        have hE : Hid (rowE m lo hi x = if t = true then 0 else 2) := by
          show rowE m lo hi x = _
          unfold rowE
          rw [if_pos HXM.out, HT.out]
        cases t
        · go_wp2_with (go_at_call 45; refine C.out.mono ?_; rintro e w' ⟨rfl, rfl⟩)
          go_ret
          exact ⟨by rw [HE.out, HS.out, hE.out]; simp, rfl⟩
        · go_wp2_with (go_at_call 45; refine C.out.mono ?_; rintro e w' ⟨rfl, rfl⟩)
          go_round
          case rel => exact ⟨k + 1, by omega, by go_num, by show _ = _; rw [HE.out, HS.out, hE.out]; simp⟩
          case measure => simp [intOf]; omega
      · have h1b : ((m : Int) != (cols : Int)) = true := by rw [bne_iff_ne]; omega
        have hE : Hid (rowE cols lo hi x = 10) := by
          show rowE cols lo hi x = _
          unfold rowE
          rw [if_neg (by rw [HXM.out]; exact h1)]
        go_wp2
        go_ret
        exact ⟨by rw [HE.out, HS.out, hE.out]; rfl, rfl⟩
    · obtain rfl : n = k := by omega
      go_wp2
      go_ret
      exact ⟨by rw [HE.out, List.drop_eq_nil_of_le (by have := HR.out.1; omega)]; rfl, rfl⟩

set_option maxRecDepth 100000 in
set_option maxHeartbeats 1000000 in
theorem checkRowsP_any (A : Option Addr) (n c : Nat) (rows : List (List Int)) (cols : Nat) (lo hi : Int) (w : World) (hr : RdG w A n rows) (hn : n ≤ 9223372036854775806) :
    Calls Tryz.prog 53 #[.slice A n c, .int .i64 cols, .int .i64 lo, .int .i64 hi] w fun e w' => e = .returned (.int .i64 (rowsE cols lo hi rows)) ∧ w = w' := by
  have HR := Lib.hid hr; clear hr
  go_enter Tryz.func53, Tryz.ntmps53
  go_wp2
  go_loop [13] (fun i => ∃ k : Nat, k ≤ n ∧ i = .int .i64 k ∧ Hid (rowsE cols lo hi rows = rowsE cols lo hi (rows.drop k))) (fun i => n - (intOf i).toNat)
  case atStart => exact ⟨0, Nat.zero_le _, rfl, rfl⟩
  case round =>
    obtain ⟨k, hk, rfl, HE⟩ := hrel
    by_cases hlt : k < n
    · obtain ⟨ad, ha, _, hc⟩ := HR.out.2 (by omega)
      obtain ⟨B, m, c', hck, hrow, hm⟩ := hc k hlt
      clear hc
      subst ha
      obtain ⟨x, hx⟩ : ∃ x, rows.getD k [] = x := ⟨_, rfl⟩
      have hs := rowsE_step cols lo hi rows k (by have := HR.out.1; omega)
      rw [hx] at hrow hs
      have hxm : x.length = m := hrow.1
      have C := Lib.hid (areFrom_any B m c' x lo hi w hrow hm)
      clear hrow hx
      obtain ⟨t, ht⟩ : ∃ t, fromB lo hi x = t := ⟨_, rfl⟩
      rw [ht] at C
      have HS := Lib.hid hs; clear hs
      have HT := Lib.hid ht; clear ht
      have HXM := Lib.hid hxm; clear hxm
      have hkI : (k : Int) < (n : Int) := by omega
      by_cases h1 : m = cols
      · subst h1
        have h1b : ((m : Int) != (m : Int)) = false := bne_self_eq_false' _
        have hE : Hid (rowE m lo hi x = if t = true then 0 else 2) := by
          show rowE m lo hi x = _
          unfold rowE
          rw [if_pos HXM.out, HT.out]
        cases t
        · go_wp2_with (go_at_call 45; refine C.out.mono ?_; rintro e w' ⟨rfl, rfl⟩)
          go_ret
          exact ⟨by rw [HE.out, HS.out, hE.out]; simp, rfl⟩
        · go_wp2_with (go_at_call 45; refine C.out.mono ?_; rintro e w' ⟨rfl, rfl⟩)
          go_round
          case rel => exact ⟨k + 1, by omega, by go_num, by show _ = _; rw [HE.out, HS.out, hE.out]; simp⟩
          case measure => simp [intOf]; omega
      · have h1b : ((m : Int) != (cols : Int)) = true := by rw [bne_iff_ne]; omega
        have hE : Hid (rowE cols lo hi x = 10) := by
          show rowE cols lo hi x = _
          unfold rowE
          rw [if_neg (by rw [HXM.out]; exact h1)]
        go_wp2
        go_ret
        exact ⟨by rw [HE.out, HS.out, hE.out]; rfl, rfl⟩
    · obtain rfl : n = k := by omega
      go_wp2
      go_ret
      exact ⟨by rw [HE.out, List.drop_eq_nil_of_le (by have := HR.out.1; omega)]; rfl, rfl⟩

end Go.Proofs.YtjjflbnopphciaaGreatDoor
