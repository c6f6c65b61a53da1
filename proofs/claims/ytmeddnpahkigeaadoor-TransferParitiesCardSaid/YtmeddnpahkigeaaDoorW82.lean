import Derived.Test.YtmeddnpahkigeaaDoorW12
import Derived.Test.YtmeddnpahkigeaaDoorW14
import Derived.Test.YtmeddnpahkigeaaDoorPC
import Derived.Test.YtmeddnpahkigeaaDoorW54
namespace Go.Proofs.YtmeddnpahkigeaaDoor
open Go.RowKit

/-- What cell k of block i holds. -/
def dc (ds : List (List Int)) (i k : Nat) : Int := (ds.getD i []).getD k 0
def Ok8 (ds : List (List Int)) : Prop := ∀ i, i < ds.length → (ds.getD i []).length = 8

/-- A slice of arrays of eight reads as the blocks ds. -/
def RdD (w : World) (A : Option Addr) (n : Nat) (ds : List (List Int)) : Prop :=
  ds.length = n ∧ Ok8 ds ∧ (0 < n → ∃ ad, A = some ad ∧ ad.block < w.heap.size ∧ ∀ i k, i < n → k < 8 → w.cell? ((ad.add (i * 8)).add k) = some (.int .i64 (dc ds i k)))
theorem RdD.below {w w' : World} {A : Option Addr} {n : Nat} {ds : List (List Int)} (h : RdD w A n ds) (hb : Below w.heap.size w w') : RdD w' A n ds := by
  refine ⟨h.1, h.2.1, fun h0 => ?_⟩
  obtain ⟨ad, hA, hg, hc⟩ := h.2.2 h0
  exact ⟨ad, hA, Nat.lt_of_lt_of_le hg hb.size, fun i k hi hk => (hb.cell (by rw [addBlock, addBlock]; exact hg)).trans (hc i k hi hk)⟩
theorem RdD.drew {w : World} {A : Option Addr} {n : Nat} {ds : List (List Int)} (h : RdD w A n ds) : RdD w.drew A n ds := h
theorem addZeroT (a : Addr) : a.add 0 = a := by simp [Addr.add]
theorem list8 (l : List Int) (h : l.length = 8) : l = [l.getD 0 0, l.getD 1 0, l.getD 2 0, l.getD 3 0, l.getD 4 0, l.getD 5 0, l.getD 6 0, l.getD 7 0] := by
  match l, h with
  | [_, _, _, _, _, _, _, _], _ => rfl
theorem RdD.row {w : World} {A : Option Addr} {n : Nat} {ds : List (List Int)} (h : RdD w A n ds) {k : Nat} (hk : k < n) :
    ∃ ad, ∃ x0 x1 x2 x3 x4 x5 x6 x7 : Int, A = some ad ∧ ad.block < w.heap.size ∧ ds.getD k [] = [x0, x1, x2, x3, x4, x5, x6, x7] ∧ w.cell? (ad.add (k * 8)) = some (.int .i64 x0) ∧ w.cell? ⟨(ad.add (k * 8)).block, (ad.add (k * 8)).off + 1, none⟩ = some (.int .i64 x1) ∧ w.cell? ⟨(ad.add (k * 8)).block, (ad.add (k * 8)).off + 2, none⟩ = some (.int .i64 x2) ∧ w.cell? ⟨(ad.add (k * 8)).block, (ad.add (k * 8)).off + 3, none⟩ = some (.int .i64 x3) ∧ w.cell? ⟨(ad.add (k * 8)).block, (ad.add (k * 8)).off + 4, none⟩ = some (.int .i64 x4) ∧ w.cell? ⟨(ad.add (k * 8)).block, (ad.add (k * 8)).off + 5, none⟩ = some (.int .i64 x5) ∧ w.cell? ⟨(ad.add (k * 8)).block, (ad.add (k * 8)).off + 6, none⟩ = some (.int .i64 x6) ∧ w.cell? ⟨(ad.add (k * 8)).block, (ad.add (k * 8)).off + 7, none⟩ = some (.int .i64 x7) := by
  obtain ⟨ad, hA, hb, hc⟩ := h.2.2 (by omega)
  refine ⟨ad, dc ds k 0, dc ds k 1, dc ds k 2, dc ds k 3, dc ds k 4, dc ds k 5, dc ds k 6, dc ds k 7, hA, hb, list8 _ (h.2.1 k (by rw [h.1]; exact hk)), ?_, hc k 1 hk (by omega), hc k 2 hk (by omega), hc k 3 hk (by omega), hc k 4 hk (by omega), hc k 5 hk (by omega), hc k 6 hk (by omega), hc k 7 hk (by omega)⟩
  have := hc k 0 hk (by omega)
  rwa [addZeroT] at this

/-- The error of blocks. -/
def dataE (ds : List (List Int)) : Int := firstE (ds.map fun x => rangesE x (-32767) 32767)
theorem dataE_step (ds : List (List Int)) (k : Nat) (hk : k < ds.length) :
    dataE (ds.drop k) = if rangesE (ds.getD k []) (-32767) 32767 = 0 then dataE (ds.drop (k + 1)) else rangesE (ds.getD k []) (-32767) 32767 := by
  unfold dataE
  rw [List.drop_eq_getElem_cons hk]
  simp only [List.map_cons, firstE, List.getD_eq_getElem?_getD, List.getElem?_eq_getElem hk, Option.getD_some]

theorem checkEach8_any (A : Option Addr) (n c : Nat) (ds : List (List Int)) (w : World) (hr : RdD w A n ds) (hn : n ≤ 1000000) :
    Calls Tryd.prog 53 #[.slice A n c, .func (Fn.func 54) #[] #[]] w
      fun e w' => e = .returned (.int .i64 (dataE ds)) ∧ Below w.heap.size w w' := by
  have HR := Lib.hid hr; clear hr
  go_enter Tryd.func53, Tryd.ntmps53
  go_wp2
  go_loopw [4, 6, 7, 10, 11, 12, 13, 14, 15, 16] (fun _ _ _ i _ _ _ _ _ _ wr => ∃ k : Nat, k ≤ n ∧ i = .int .i64 k ∧ Hid (dataE ds = dataE (ds.drop k)) ∧ Hid (Below w.heap.size w wr)) (fun _ _ _ i _ _ _ _ _ _ _ => n - (intOf i).toNat)
  case atStart => exact ⟨0, Nat.zero_le _, rfl, rfl, Below.refl _ _⟩
  case round =>
    obtain ⟨k, hk, rfl, HE, HB⟩ := hrel
    by_cases hlt : k < n
    · obtain ⟨ad, x0, x1, x2, x3, x4, x5, x6, x7, rfl, hbl, hrow, p0, p1, p2, p3, p4, p5, p6, p7⟩ := (HR.out.below HB.out).row hlt
      have hs := dataE_step ds k (by have := HR.out.1; omega)
      rw [hrow] at hs
      obtain ⟨r, hr⟩ : ∃ r, rangesE [x0, x1, x2, x3, x4, x5, x6, x7] (-32767) 32767 = r := ⟨_, rfl⟩
      rw [hr] at hs
      have HS := Lib.hid hs
      have C : Hid (∀ W, Calls Tryd.prog 54 #[.agg #[.int .i64 x0, .int .i64 x1, .int .i64 x2, .int .i64 x3, .int .i64 x4, .int .i64 x5, .int .i64 x6, .int .i64 x7]] W fun e w' => e = .returned (.int .i64 r) ∧ Below W.heap.size W w') := fun W => by rw [← hr]; exact checkSamples_any _ _ W (is8_lit x0 x1 x2 x3 x4 x5 x6 x7)
      have hkI : (k : Int) < (n : Int) := by omega
      have hszr : w.heap.size ≤ wr.heap.size := HB.out.size
      clear hs hr hrow
      go_wp2_with (go_at_call 54; refine (C.out _).mono ?_; rintro e w' ⟨rfl, hb⟩)
      · have h1 : (r != 0) = true := by assumption
        have HF : Hid (Below w.heap.size w w') := (HB.out.alloc hszr _).trans (hb.mono (by simp; omega))
        go_ret
        have h2 : r ≠ 0 := by simpa using h1
        exact ⟨by rw [HE.out, HS.out, if_neg h2]; rfl, HF.out⟩
      · have h1 : (r != 0) = false := by assumption
        have h2 : r = 0 := by simpa using h1
        have HF : Hid (Below w.heap.size w w') := (HB.out.alloc hszr _).trans (hb.mono (by simp; omega))
        clear hb
        go_roundw
        case rel =>
          refine ⟨k + 1, by omega, by go_num, ?_, HF.out⟩
          show dataE ds = _
          rw [HE.out, HS.out, if_pos h2]
        case measure => simp [intOf]; omega
    · go_wp2
      go_ret
      refine ⟨?_, HB.out⟩
      rw [HE.out, List.drop_of_length_le (by have := HR.out.1; omega)]
      rfl

/-- The error of data and a number of parities, as the reference has it. -/
def datE (n : Nat) (ds : List (List Int)) (count : Int) : Int := if n = 0 then 10 else if 12 < n then 8 else if dataE ds ≠ 0 then dataE ds else if inB count 1 4 then 0 else 2

theorem dataErr_any (A : Option Addr) (n c : Nat) (ds : List (List Int)) (count : Int) (w : World) (hr : RdD w A n ds) (hn : n ≤ 1000000) :
    Calls Tryd.prog 19 #[.slice A n c, .int .i64 count] w
      fun e w' => e = .returned (.int .i64 (datE n ds count)) ∧ Below w.heap.size w w' := by
  have HR := Lib.hid hr; clear hr
  have HD : Hid (datE n ds count = if n = 0 then 10 else if 12 < n then 8 else if dataE ds ≠ 0 then dataE ds else if inB count 1 4 then 0 else 2) := rfl
  by_cases h0 : n = 0
  · have h0' : (n : Int) = 0 := by omega
    have h0b : ((n : Int) == 0) = true := by simpa using h0'
    go_enter Tryd.func19, Tryd.ntmps19
    go_wp2
    go_ret
    exact ⟨by rw [HD.out, if_pos h0]; rfl, Below.refl _ _⟩
  by_cases h1 : 12 < n
  · have h0b : ((n : Int) == 0) = false := by simp; omega
    have h1' : (12 : Int) < (n : Int) := by omega
    go_enter Tryd.func19, Tryd.ntmps19
    go_wp2
    go_ret
    exact ⟨by rw [HD.out, if_neg h0, if_pos h1]; rfl, Below.refl _ _⟩
  have h0b : ((n : Int) == 0) = false := by simp; omega
  have h1' : ¬ (12 : Int) < (n : Int) := by omega
  obtain ⟨b, hb⟩ : ∃ b, inB count 1 4 = b := ⟨_, rfl⟩
  have CW : Hid (∀ W, Calls Tryd.prog 18 #[.int .i64 count, .int .i64 1, .int .i64 4] W fun e w' => e = .returned (.bool b) ∧ W = w') := fun W => by rw [← hb]; exact within_any _ _ _ W
  rw [hb, if_neg h0, if_neg h1] at HD
  clear hb
  go_enter Tryd.func19, Tryd.ntmps19
  go_wp2
  go_loopw [4, 5, 6] (fun _ i _ wr => ∃ k : Nat, k ≤ n ∧ i = .int .i64 k ∧ Hid (dataE ds = dataE (ds.drop k)) ∧ Hid (Below w.heap.size w wr)) (fun _ i _ _ => n - (intOf i).toNat)
  case atStart => exact ⟨0, Nat.zero_le _, rfl, rfl, Below.refl _ _⟩
  case round =>
    obtain ⟨k, hk, rfl, HE, HB⟩ := hrel
    by_cases hlt : k < n
    · obtain ⟨ad, x0, x1, x2, x3, x4, x5, x6, x7, rfl, hbl, hrow, p0, p1, p2, p3, p4, p5, p6, p7⟩ := (HR.out.below HB.out).row hlt
      have hs := dataE_step ds k (by have := HR.out.1; omega)
      rw [hrow] at hs
      obtain ⟨r, hr⟩ : ∃ r, rangesE [x0, x1, x2, x3, x4, x5, x6, x7] (-32767) 32767 = r := ⟨_, rfl⟩
      rw [hr] at hs
      have HS := Lib.hid hs
      have C : Hid (∀ W, Calls Tryd.prog 57 #[.agg #[.int .i64 x0, .int .i64 x1, .int .i64 x2, .int .i64 x3, .int .i64 x4, .int .i64 x5, .int .i64 x6, .int .i64 x7]] W fun e w' => e = .returned (.int .i64 r) ∧ Below W.heap.size W w') := fun W => by rw [← hr]; exact samplesErr_any _ _ W (is8_lit x0 x1 x2 x3 x4 x5 x6 x7)
      have hkI : (k : Int) < (n : Int) := by omega
      have hszr : w.heap.size ≤ wr.heap.size := HB.out.size
      clear hs hr hrow
      go_wp2_with (go_at_call 57; refine (C.out _).mono ?_; rintro e w' ⟨rfl, hb⟩)
      · have h1 : (r != 0) = true := by assumption
        have HF : Hid (Below w.heap.size w w') := HB.out.trans (hb.mono (by omega))
        go_ret
        have h2 : r ≠ 0 := by simpa using h1
        have h3 : dataE ds = r := by rw [HE.out, HS.out, if_neg h2]
        exact ⟨by rw [HD.out, h3, if_pos h2]; rfl, HF.out⟩
      · have h1 : (r != 0) = false := by assumption
        have h2 : r = 0 := by simpa using h1
        have HF : Hid (Below w.heap.size w w') := HB.out.trans (hb.mono (by omega))
        clear hb
        go_roundw
        case rel =>
          refine ⟨k + 1, by omega, by go_num, ?_, HF.out⟩
          show dataE ds = _
          rw [HE.out, HS.out, if_pos h2]
        case measure => simp [intOf]; omega
    · have h3 : Hid (dataE ds = 0) := by
        show _ = _
        rw [HE.out, List.drop_of_length_le (by have := HR.out.1; omega)]
        rfl
      have HF := Lib.hid HB.out
      rw [h3.out] at HD
      clear HE HB
      cases b
      all_goals
        go_wp2_with (go_at_call 18; refine (CW.out _).mono ?_; rintro e w' ⟨rfl, rfl⟩)
        go_ret
        exact ⟨by rw [HD.out]; rfl, HF.out⟩

end Go.Proofs.YtmeddnpahkigeaaDoor
