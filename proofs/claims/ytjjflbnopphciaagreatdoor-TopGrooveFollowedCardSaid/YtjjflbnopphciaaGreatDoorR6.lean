import Derived.Test.YtjjflbnopphciaaGreatDoorR5
import Derived.Test.YtjjflbnopphciaaGreatDoorXA
namespace Go.Proofs.YtjjflbnopphciaaGreatDoor
open Go.RowKit

/-- The error of a ring. -/
def hasB (rows : List (List Int)) (cx cy r : Int) : Bool := fromB r (((rows.getD 0 []).length : Int) - 1 - r) [cx] && fromB r ((rows.length : Int) - 1 - r) [cy]
def ringE (rows : List (List Int)) (cx cy r : Int) : Int :=
  if gridE 24 24 rows = 0 then (if fromB 1 24 [r] = true then (if hasB rows cx cy r = true then 0 else 23) else 2) else gridE 24 24 rows

theorem rowsE_zero {cols : Nat} {lo hi : Int} : ∀ {rows : List (List Int)}, rowsE cols lo hi rows = 0 → ∀ r ∈ rows, r.length = cols ∧ fromB lo hi r = true
  | [], _, r, h => by simp at h
  | a :: l, h, r, hr => by
    have ha : rowE cols lo hi a = 0 := by
      unfold rowsE at h
      split at h
      · assumption
      · exact h
    have h' : rowsE cols lo hi l = 0 := by unfold rowsE at h; rw [if_pos ha] at h; exact h
    rcases List.mem_cons.1 hr with rfl | hr
    · unfold rowE at ha
      split at ha
      · rename_i hl
        split at ha
        · rename_i hf; exact ⟨hl, hf⟩
        · omega
      · omega
    · exact rowsE_zero h' r hr
theorem grid_ok {R C : Nat} {rows : List (List Int)} (h : gridE R C rows = 0) : ∃ m, 0 < rows.length ∧ 0 < m ∧ rows.length ≤ R ∧ m ≤ C ∧ (rows.getD 0 []).length = m ∧ ∀ r ∈ rows, r.length = m ∧ fromB 0 255 r = true := by
  cases rows with
  | nil => simp [gridE] at h
  | cons r rs =>
    have e : gridE R C (r :: rs) = if r.length = 0 then 10 else if R < rs.length + 1 ∨ C < r.length then 8 else rowsE r.length 0 255 (r :: rs) := rfl
    rw [e] at h
    by_cases h0 : r.length = 0
    · rw [if_pos h0] at h; omega
    · rw [if_neg h0] at h
      by_cases h1 : R < rs.length + 1 ∨ C < r.length
      · rw [if_pos h1] at h; omega
      · rw [if_neg h1] at h
        exact ⟨r.length, by simp, by omega, by simp; omega, by omega, by simp, rowsE_zero h⟩
theorem fromB_one {lo hi x : Int} : fromB lo hi [x] = true ↔ lo ≤ x ∧ x ≤ hi := by simp [fromB]
theorem ring_in {cx cy : Int} {r : Nat} {p : Int × Int} (h : p ∈ ringTo cx cy r 5) : cx - r ≤ p.1 ∧ p.1 ≤ cx + r ∧ cy - r ≤ p.2 ∧ p.2 ≤ cy + r := by
  simp only [ringTo, List.nil_append, List.append_assoc, List.mem_append, sideTo, List.mem_map, List.mem_range, sd, sds, List.getD_cons_zero, List.getD_cons_succ, ptOf, startOf] at h
  rcases h with ⟨k, hk, rfl⟩ | ⟨k, hk, rfl⟩ | ⟨k, hk, rfl⟩ | ⟨k, hk, rfl⟩ | ⟨k, hk, rfl⟩ <;> dsimp only <;> omega

/-- What RingOf returns besides its error. -/
def ringX (rows : List (List Int)) (cx cy r : Int) : List Int := if ringE rows cx cy r = 0 then (ringTo cx cy r.toNat 5).map (pix rows) else []
theorem ringX_err {rows : List (List Int)} {cx cy r : Int} (h : ringE rows cx cy r ≠ 0) : ringX rows cx cy r = [] := if_neg h

set_option maxRecDepth 100000 in
set_option maxHeartbeats 2000000 in
theorem RingOf_any (A : Option Addr) (n c : Nat) (rows : List (List Int)) (cx cy r : Int) (w : World) (hl : LaidSides w) (hg : RdG w A n rows) (hn : n ≤ 9223372036854775806) :
    Calls Tryz.prog 31 #[.agg #[.slice A n c], .agg #[.int .i64 cx, .int .i64 cy], .int .i64 r] w (OwnRes w (ringE rows cx cy r) (ringX rows cx cy r)) := by
  obtain ⟨W0, hW0⟩ : ∃ W0, (w.alloc (.cells #[.slice A n c] 41)).alloc (.cells #[.int .i64 cx, .int .i64 cy] 43) = W0 := ⟨_, rfl⟩
  have l0 : Below w.heap.size w W0 := by rw [← hW0]; exact ((Below.refl _ w).alloc (Nat.le_refl _) _).alloc (by simp) _
  have z0 : W0.heap.size = w.heap.size + 2 := by rw [← hW0]; simp
  have q0 : W0.cell? ⟨w.heap.size, 0, none⟩ = some (.slice A n c) := by rw [← hW0]; simp [go_sem]
  have q1 : W0.cell? ⟨w.heap.size + 1, 0, none⟩ = some (.int .i64 cx) := by rw [← hW0]; simp [go_sem]
  have q2 : W0.cell? ⟨w.heap.size + 1, 1, none⟩ = some (.int .i64 cy) := by rw [← hW0]; simp [go_sem]
  have HL := Lib.hid hl
  have HG := Lib.hid hg
  have HLen : Hid (rows.length = n) := hg.1
  clear hl hg
  have CI := Lib.hid (checkImage_any A n c rows W0 (HG.out.below l0) hn)
  obtain ⟨E, hE⟩ : ∃ E, gridE 24 24 rows = E := ⟨_, rfl⟩
  rw [hE] at CI
  have HE := Lib.hid hE
  clear hE
  go_enter Tryz.func31, Tryz.ntmps31
  go_wp2_with fail
  clear hW0
  refine CI.out.mono ?_
  rintro e w1 ⟨rfl, hb1⟩
  have l1 := Lib.hid (l0.trans (hb1.mono l0.size))
  have p0 := (hb1.cell (p := ⟨w.heap.size, 0, none⟩) (by dsimp only; omega)).trans q0
  have p1 := (hb1.cell (p := ⟨w.heap.size + 1, 0, none⟩) (by dsimp only; omega)).trans q1
  have p2 := (hb1.cell (p := ⟨w.heap.size + 1, 1, none⟩) (by dsimp only; omega)).trans q2
  have hz1 : w.heap.size + 2 ≤ w1.heap.size := by have := hb1.size; omega
  clear q0 q1 q2 hb1 z0 CI l0
  by_cases hE0 : E = 0
  · subst hE0
    by_cases hr1 : fromB 1 24 [r] = true
    · have hrr := fromB_one.1 hr1
      obtain ⟨m, g1, g2, g3, g4, g5, g6⟩ := grid_ok HE.out
      obtain ⟨ad, rfl, hadb, hc⟩ := HG.out.2 (by rw [← HLen.out]; exact g1)
      obtain ⟨B, m', c', hck, hrow, _⟩ := hc 0 (by rw [← HLen.out]; exact g1)
      obtain rfl : m' = m := by rw [← hrow.1, g5]
      rw [addZ] at hck
      have hnn : 0 < n ∧ n ≤ 24 := by rw [← HLen.out]; exact ⟨g1, g3⟩
      have CA := Lib.hid (areFrom_any (some ⟨w1.heap.size, 0, none⟩) 1 1 [r] 1 24 (w1.alloc (.cells #[.int .i64 r] 3)) (lit1 _ _ _ (by simp [go_sem])) (by omega))
      rw [hr1] at CA
      obtain ⟨W2, hW2⟩ : ∃ W2, w1.alloc (.cells #[.int .i64 r] 3) = W2 := ⟨_, rfl⟩
      have l2 : Below w.heap.size w W2 := by rw [← hW2]; exact l1.out.alloc l1.out.size _
      have hck2 : W2.cell? ad = some (.slice B m' c') := (l2.cell hadb).trans hck
      have p0' : W2.cell? ⟨w.heap.size, 0, none⟩ = some (.slice (some ad) n c) := by rw [← hW2]; exact cellA _ p0
      have p1' : W2.cell? ⟨w.heap.size + 1, 0, none⟩ = some (.int .i64 cx) := by rw [← hW2]; exact cellA _ p1
      have p2' : W2.cell? ⟨w.heap.size + 1, 1, none⟩ = some (.int .i64 cy) := by rw [← hW2]; exact cellA _ p2
      have hz2 : w.heap.size + 2 ≤ W2.heap.size := by rw [← hW2]; simp; omega
      have HEn : Hid (ringE rows cx cy r = if hasB rows cx cy r = true then 0 else 23) := by show _ = _; unfold ringE; rw [if_pos HE.out, if_pos hr1]
      have hHB : Hid (hasB rows cx cy r = (fromB r ((m' : Int) - 1 - r) [cx] && fromB r ((n : Int) - 1 - r) [cy])) := by show _ = _; unfold hasB; rw [g5, HLen.out]
      have CH : Hid (Calls Tryz.prog 46 #[.agg #[.slice (some ad) n c], .agg #[.int .i64 cx, .int .i64 cy], .int .i64 r] W2 fun e w' => e = .returned (.bool (hasB rows cx cy r)) ∧ Below W2.heap.size W2 w') := by
        cases hb : fromB r ((m' : Int) - 1 - r) [cx] with
        | true =>
          refine (hasRing_yes ad n c m' c' B cx cy r W2 hck2 (Nat.lt_of_lt_of_le hadb l2.size) (by omega) (by omega) (by omega) (by omega) hb).mono ?_
          rintro e w' ⟨rfl, h⟩
          exact ⟨by rw [hHB.out, hb, Bool.true_and], h⟩
        | false =>
          refine (hasRing_no ad n c m' c' B cx cy r W2 hck2 (Nat.lt_of_lt_of_le hadb l2.size) (by omega) (by omega) (by omega) (by omega) hb).mono ?_
          rintro e w' ⟨rfl, h⟩
          exact ⟨by rw [hHB.out, hb, Bool.false_and], h⟩
      have HC := Lib.hid hc
      have HR := Lib.hid hr1
      have HG6 := Lib.hid g6
      have L2 := Lib.hid l2
      clear hc hck hck2 hr1 g6 hrow l1 l2 HE g5
      rw [hW2] at CA
      go_wp2_with fail
      refine CA.out.mono ?_
      rintro e w' ⟨rfl, rfl⟩
      clear CA p0 p1 p2 hW2
      cases hb : hasB rows cx cy r with
      | false =>
        rw [hb] at CH
        have HEr : Hid (ringE rows cx cy r = 23) := by show _ = _; rw [HEn.out, hb]; rfl
        clear hb
        go_wp2_with fail
        refine CH.out.mono ?_
        rintro e w3 ⟨rfl, hb3⟩
        clear p0' p1' p2'
        go_wp2
        go_ret2
        rw [ringX_err (by rw [HEr.out]; decide), HEr.out]
        exact OwnRes.none_ (L2.out.trans (hb3.mono L2.out.size))
      | true =>
        have hb0 : hasB rows cx cy r = true := hb
        rw [hb] at CH
        have HEr : Hid (ringE rows cx cy r = 0) := by show _ = _; rw [HEn.out, hb]; rfl
        have hbb := hHB.out.symm.trans hb0
        rw [Bool.and_eq_true, fromB_one, fromB_one] at hbb
        obtain ⟨ρ, rfl⟩ := Int.eq_ofNat_of_zero_le (show 0 ≤ r by omega)
        have HIN : Hid (∀ p ∈ ringTo cx cy ρ 5, 0 ≤ p.2 ∧ p.2 < n ∧ 0 ≤ p.1 ∧ p.1 < (rows.getD p.2.toNat []).length) := by
          intro p hp
          have hin := ring_in hp
          obtain ⟨y, hy⟩ := Int.eq_ofNat_of_zero_le (show 0 ≤ p.2 by omega)
          have hyn : y < rows.length := by have := HLen.out; omega
          have hrl : (rows.getD p.2.toNat []).length = m' := by
            rw [hy, Int.toNat_natCast, List.getD_eq_getElem?_getD, List.getElem?_eq_getElem hyn]
            exact (HG6.out _ (List.getElem_mem hyn)).1
          rw [hrl]; omega
        clear hb hb0
        have HBB := Lib.hid hbb
        clear hbb
        go_wp2_with fail
        refine CH.out.mono ?_
        rintro e w3 ⟨rfl, hb3⟩
        have l3 := Lib.hid (L2.out.trans (hb3.mono L2.out.size))
        have r0 := (hb3.cell (p := ⟨w.heap.size, 0, none⟩) (by dsimp only; omega)).trans p0'
        have r1 := (hb3.cell (p := ⟨w.heap.size + 1, 0, none⟩) (by dsimp only; omega)).trans p1'
        have r2 := (hb3.cell (p := ⟨w.heap.size + 1, 1, none⟩) (by dsimp only; omega)).trans p2'
        have CR := Lib.hid (ringOf_any (some ad) n c rows cx cy ρ w3 ⟨Nat.lt_of_lt_of_le HL.out.lt l3.out.size, fun j hj => by
          obtain ⟨a, b, c⟩ := HL.out.row j hj
          exact ⟨(l3.out.cell (p := ⟨_, _, none⟩) HL.out.lt).trans a, (l3.out.cell (p := ⟨_, _, none⟩) HL.out.lt).trans b, (l3.out.cell (p := ⟨_, _, none⟩) HL.out.lt).trans c⟩⟩ (HG.out.below l3.out) (by have := HBB.out; omega) (by have := HBB.out; omega) (by omega) HIN.out)
        clear p0' p1' p2' hb3
        go_wp2_with fail
        refine CR.out.mono ?_
        rintro e w4 ⟨⟨v, rfl, hown⟩, hb4⟩
        have HO := Lib.hid hown
        have l4 := Lib.hid (l3.out.trans (hb4.mono l3.out.size))
        clear hown hb4 r0 r1 r2
        go_wp2
        go_ret2
        have hx : ringX rows cx cy (ρ : Int) = (ringTo cx cy ρ 5).map (pix rows) := by unfold ringX; rw [if_pos HEr.out, Int.toNat_natCast]
        rw [hx, HEr.out]
        refine ⟨⟨v, rfl, ?_⟩, l4.out⟩
        have := ownMono HO.out l3.out.size
        simpa using this
    · have hr2 : fromB 1 24 [r] = false := by simpa using hr1
      have CA := Lib.hid (areFrom_any (some ⟨w1.heap.size, 0, none⟩) 1 1 [r] 1 24 (w1.alloc (.cells #[.int .i64 r] 3)) (lit1 _ _ _ (by simp [go_sem])) (by omega))
      rw [hr2] at CA
      have HEr : Hid (ringE rows cx cy r = 2) := by show _ = _; unfold ringE; rw [if_pos HE.out, if_neg hr1]
      clear hr1 hr2 p0 p1 p2
      go_wp2_with (go_at_call 45; refine CA.out.mono ?_; rintro e w' ⟨rfl, rfl⟩)
      go_ret2
      rw [ringX_err (by rw [HEr.out]; decide), HEr.out]
      exact OwnRes.none_ (l1.out.alloc l1.out.size _)
  · have hne : (E != 0) = true := by simpa using hE0
    have HEr : Hid (ringE rows cx cy r = E) := by show _ = _; unfold ringE; rw [if_neg (by rw [HE.out]; exact hE0), HE.out]
    have HE0 := Lib.hid hE0
    clear hE0 p0 p1 p2
    go_wp2
    go_ret2
    rw [ringX_err (by rw [HEr.out]; exact HE0.out), HEr.out]
    exact OwnRes.none_ l1.out

end Go.Proofs.YtjjflbnopphciaaGreatDoor
