import Derived.Test.YtmeddnpahkigeaaDoorW77
import Derived.Test.YtmeddnpahkigeaaDoorW22
import Derived.Test.YtmeddnpahkigeaaDoorW62
namespace Go.Proofs.YtmeddnpahkigeaaDoor
open Go.RowKit

theorem blCells_at (bs : List Bl) (j i : Nat) (hj : j < bs.length) (hi : i < 11) : (blCells bs)[j * 11 + i]? = (bs.getD j bl0).arr.toList[i]? := by
  induction bs generalizing j with
  | nil => simp at hj
  | cons b t ih =>
    have hb : b.arr.toList.length = 11 := rfl
    cases j with
    | zero =>
      simp only [blCells, List.flatMap_cons, Nat.zero_mul, Nat.zero_add]
      rw [List.getElem?_append_left (by rw [hb]; exact hi)]
      rfl
    | succ j =>
      simp only [blCells, List.flatMap_cons]
      rw [List.getElem?_append_right (by rw [hb]; omega), hb, show (j + 1) * 11 + i - 11 = j * 11 + i by omega]
      have := ih j (by simpa using hj)
      simpa [blCells] using this

theorem RdB.of_own {w : World} {base n c : Nat} {A : Option Addr} {bs : List Bl} (h : w.ownsRow base 67 11 (.slice A n c) n (blCells bs)) (hl : bs.length = n) : RdB w A n bs := by
  refine ⟨hl, fun h0 => ?_⟩
  rcases h.2 with ⟨_, e⟩ | ⟨g, cap, cur, e, _, hg, h1, h2, h3, h4⟩
  · omega
  · simp only [Value.slice.injEq] at e
    obtain ⟨rfl, _, rfl⟩ := e
    refine ⟨g, rfl, (Array.getElem?_eq_some_iff.1 hg).1, fun j hj i v hv => ?_⟩
    have hi : i < 11 := (List.getElem?_eq_some_iff.1 hv).1
    rw [cell_of_row w g (j * 11 + i) cur _ (0, 0) hg, ← Array.getElem?_toList]
    have e1 : (cur.toList.take (n * 11))[j * 11 + i]? = some v := by rw [h4, blCells_at bs j i (by omega) hi]; exact hv
    rw [List.getElem?_take, if_pos (by omega)] at e1
    exact e1

theorem sumT_in (c h : Int) (xs : List Int) : 0 ≤ sumT c h xs ∧ sumT c h xs < 65537 := by unfold sumT; omega
theorem blksX_ok (xs : List Int) (h c : Int) (k : Nat) (hx : Bnd xs 32767) (hh : 0 ≤ h ∧ h ≤ 3) (hc : ∀ j : Nat, j < k → 0 ≤ c + (j : Int) ∧ c + (j : Int) ≤ 65535) : ∀ j, j < k → ((blksX xs h c k).getD j bl0).Ok := by
  intro j hj
  have e : (blksX xs h c k).getD j bl0 = blkX xs h c j := by simp [blksX, List.getD_eq_getElem?_getD, hj]
  rw [e]
  have hs := sumT_in (c + j) h (part8 xs j 8)
  have hcj := hc j hj
  have hp := part8_bnd xs j hx
  refine ⟨⟨by show _ ≤ c + (j : Int); omega, by show c + (j : Int) ≤ _; omega⟩, ⟨by show _ ≤ h; omega, by show h ≤ _; omega⟩, fun i hi => ?_, ⟨by show _ ≤ sumT _ _ _; omega, by show sumT _ _ _ ≤ _; omega⟩⟩
  have hpi := hp i
  have : [(part8 xs j 8).getD 0 0, (part8 xs j 8).getD 1 0, (part8 xs j 8).getD 2 0, (part8 xs j 8).getD 3 0, (part8 xs j 8).getD 4 0, (part8 xs j 8).getD 5 0, (part8 xs j 8).getD 6 0, (part8 xs j 8).getD 7 0].getD i 0 = (part8 xs j 8).getD i 0 := by
    rw [eight_eq _ (part8_length xs j 8)]
  rw [this] at hpi
  exact ⟨by show _ ≤ (part8 xs j 8).getD i 0; omega, by show (part8 xs j 8).getD i 0 ≤ _; omega⟩

theorem copyInts_rd (A : Option Addr) (n c : Nat) (l : List Int) (w : World) (hA : A = none → n = 0 ∧ c = 0) (hr : RdI w A n l) (hn : n ≤ 1000000) :
    Calls Tryd.prog 9 #[.slice A n c] w fun e w' => ∃ A3 c3, e = .returned (.slice A3 n c3) ∧ n ≤ c3 ∧ c3 ≤ 9223372036854775807 ∧ RdI w' A3 n l ∧ Below w.heap.size w w' :=
  (copyInts_any A n c l w hA hr hn).mono (by
    rintro e w' ⟨v, rfl, ho, hb⟩
    obtain ⟨A3, c3, rfl, h1, h2, h3⟩ := rd_own_c ho
    exact ⟨A3, c3, rfl, h1, h2, h3, hb⟩)

theorem cuts_long (A : Option Addr) (n cp : Nat) (xs : List Int) (h c : Int) (w : World) (hw : Laid w) (hn : 330 < n) :
    Calls Tryd.prog 3 #[.slice A n cp, .agg #[.int .i64 h, .int .i64 c]] w fun e w' => e = .returned (.bool true) ∧ Below w.heap.size w w' := by
  have HW := Lib.hid hw
  have hnI : (330 : Int) < (n : Int) := by omega
  clear hw
  go_enter Tryd.func3, Tryd.ntmps3
  go_wp2_with fail
  refine (awake_any _ (HW.out.later ((Below.refl _ _).alloc (Nat.le_refl _) _))).mono ?_
  rintro e w2 ⟨rfl, hb2⟩
  have HB : Hid (Below w.heap.size w w2) := ((Below.refl _ _).alloc (Nat.le_refl _) _).trans (hb2.mono (by simp))
  clear hb2
  go_wp2
  go_ret
  exact ⟨rfl, HB.out⟩

end Go.Proofs.YtmeddnpahkigeaaDoor
