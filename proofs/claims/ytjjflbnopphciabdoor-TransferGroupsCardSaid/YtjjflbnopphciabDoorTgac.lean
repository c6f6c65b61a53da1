import Derived.Test.YtjjflbnopphciabDoorTgaa
import Derived.Test.YtjjflbnopphciabDoorTgab
import Derived.Deep.MidRow
import Derived.DeepKeys
import Derived.Laws.AppendOwnNone
import Derived.Deep.DeepCutAuto
import Derived.Deep.RegionHeld3
import Derived.StillTailTactics
import Derived.BigRegion
import Derived.Outline
import Derived.RangeFuncBox
import Derived.RangeFuncNested
import Derived.RangeFuncBound
import Derived.RangeFuncCalls
import Derived.RangeFuncLeaves
import Derived.Shelf.Abstract
import Derived.Shelf.RegionOpen
import Derived.WalkKit
import Derived.WalkSpells
import Derived.WalkLawsBesides
import Derived.OwnWalkIn
import Derived.TacticsInMore
import Derived.LoopNIn
import Derived.LoopIn
import Derived.Lib.Hide
import Derived.Laws.CopyOwn
import Derived.RangeFuncWrites
namespace Go.Proofs.YtjjflbnopphciabDoor
open Go.RowKit

/-- What cell k of block i holds. -/
def dc (ds : List (List Int)) (i k : Nat) : Int := (ds.getD i []).getD k 0
def Ok8 (ds : List (List Int)) : Prop := ∀ i, i < ds.length → (ds.getD i []).length = 8

/-- A slice of arrays of eight reads as the blocks ds. -/
def RdD (w : World) (A : Option Addr) (n : Nat) (ds : List (List Int)) : Prop :=
  ds.length = n ∧ Ok8 ds ∧ (0 < n → ∃ ad, A = some ad ∧ ad.block < w.heap.size ∧ ∀ i k, i < n → k < 8 → w.cell? ((ad.add (i * 8)).add k) = some (.int .i64 (dc ds i k)))
theorem RdD.below {w w' : World} {A : Option Addr} {n : Nat} {ds : List (List Int)} (h : RdD w A n ds) (hb : Below w.heap.size w w') : RdD w' A n ds := by
  refine ⟨h.1, h.2.1, fun h0 => ?_⟩
  obtain ⟨ad, hA, hg, hc⟩ := h.2.2 h0
  exact ⟨ad, hA, Nat.lt_of_lt_of_le hg hb.size, fun i k hi hk => (hb.cell (by rw [addBlock, addBlock]; exact hg)).trans (hc i k hi hk)⟩
theorem RdD.drew {w : World} {A : Option Addr} {n : Nat} {ds : List (List Int)} (h : RdD w A n ds) : RdD w.drew A n ds := h
theorem addZeroT (a : Addr) : a.add 0 = a := by simp [Addr.add]
theorem list8 (l : List Int) (h : l.length = 8) : l = [l.getD 0 0, l.getD 1 0, l.getD 2 0, l.getD 3 0, l.getD 4 0, l.getD 5 0, l.getD 6 0, l.getD 7 0] := by
  match l, h with
  | [_, _, _, _, _, _, _, _], _ => rfl
theorem RdD.row {w : World} {A : Option Addr} {n : Nat} {ds : List (List Int)} (h : RdD w A n ds) {k : Nat} (hk : k < n) :
    ∃ ad, ∃ x0 x1 x2 x3 x4 x5 x6 x7 : Int, A = some ad ∧ ad.block < w.heap.size ∧ ds.getD k [] = [x0, x1, x2, x3, x4, x5, x6, x7] ∧ w.cell? (ad.add (k * 8)) = some (.int .i64 x0) ∧ w.cell? ⟨(ad.add (k * 8)).block, (ad.add (k * 8)).off + 1, none⟩ = some (.int .i64 x1) ∧ w.cell? ⟨(ad.add (k * 8)).block, (ad.add (k * 8)).off + 2, none⟩ = some (.int .i64 x2) ∧ w.cell? ⟨(ad.add (k * 8)).block, (ad.add (k * 8)).off + 3, none⟩ = some (.int .i64 x3) ∧ w.cell? ⟨(ad.add (k * 8)).block, (ad.add (k * 8)).off + 4, none⟩ = some (.int .i64 x4) ∧ w.cell? ⟨(ad.add (k * 8)).block, (ad.add (k * 8)).off + 5, none⟩ = some (.int .i64 x5) ∧ w.cell? ⟨(ad.add (k * 8)).block, (ad.add (k * 8)).off + 6, none⟩ = some (.int .i64 x6) ∧ w.cell? ⟨(ad.add (k * 8)).block, (ad.add (k * 8)).off + 7, none⟩ = some (.int .i64 x7) := by
  obtain ⟨ad, hA, hb, hc⟩ := h.2.2 (by omega)
  refine ⟨ad, dc ds k 0, dc ds k 1, dc ds k 2, dc ds k 3, dc ds k 4, dc ds k 5, dc ds k 6, dc ds k 7, hA, hb, list8 _ (h.2.1 k (by rw [h.1]; exact hk)), ?_, hc k 1 hk (by omega), hc k 2 hk (by omega), hc k 3 hk (by omega), hc k 4 hk (by omega), hc k 5 hk (by omega), hc k 6 hk (by omega), hc k 7 hk (by omega)⟩
  have := hc k 0 hk (by omega)
  rwa [addZeroT] at this

/-- The error of blocks. -/
def dataE (ds : List (List Int)) : Int := firstE (ds.map fun x => rangesE x (-32767) 32767)
theorem dataE_step (ds : List (List Int)) (k : Nat) (hk : k < ds.length) :
    dataE (ds.drop k) = if rangesE (ds.getD k []) (-32767) 32767 = 0 then dataE (ds.drop (k + 1)) else rangesE (ds.getD k []) (-32767) 32767 := by
  unfold dataE
  rw [List.drop_eq_getElem_cons hk]
  simp only [List.map_cons, firstE, List.getD_eq_getElem?_getD, List.getElem?_eq_getElem hk, Option.getD_some]

theorem checkEach8_any (A : Option Addr) (n c : Nat) (ds : List (List Int)) (w : World) (hr : RdD w A n ds) (hn : n ≤ 1000000) :
    Calls Tryd.prog 26 #[.slice A n c, .func (Fn.func 27) #[] #[]] w
      fun e w' => e = .returned (.int .i64 (dataE ds)) ∧ Below w.heap.size w w' := by
  have HR := Lib.hid hr; clear hr
  go_enter Tryd.func26, Tryd.ntmps26
  go_wp2
  go_loopw [4, 6, 7, 10, 11, 12, 13, 14, 15, 16] (fun _ _ _ i _ _ _ _ _ _ wr => ∃ k : Nat, k ≤ n ∧ i = .int .i64 k ∧ Hid (dataE ds = dataE (ds.drop k)) ∧ Hid (Below w.heap.size w wr)) (fun _ _ _ i _ _ _ _ _ _ _ => n - (intOf i).toNat)
  case atStart => exact ⟨0, Nat.zero_le _, rfl, rfl, Below.refl _ _⟩
  case round =>
    obtain ⟨k, hk, rfl, HE, HB⟩ := hrel
    by_cases hlt : k < n
    · obtain ⟨ad, x0, x1, x2, x3, x4, x5, x6, x7, rfl, hbl, hrow, p0, p1, p2, p3, p4, p5, p6, p7⟩ := (HR.out.below HB.out).row hlt
      have hs := dataE_step ds k (by have := HR.out.1; omega)
      rw [hrow] at hs
      obtain ⟨r, hr⟩ : ∃ r, rangesE [x0, x1, x2, x3, x4, x5, x6, x7] (-32767) 32767 = r := ⟨_, rfl⟩
      rw [hr] at hs
      have HS := Lib.hid hs
      have C : Hid (∀ W, Calls Tryd.prog 27 #[.agg #[.int .i64 x0, .int .i64 x1, .int .i64 x2, .int .i64 x3, .int .i64 x4, .int .i64 x5, .int .i64 x6, .int .i64 x7]] W fun e w' => e = .returned (.int .i64 r) ∧ Below W.heap.size W w') := fun W => by rw [← hr]; exact checkSamples_any _ _ W (is8_lit x0 x1 x2 x3 x4 x5 x6 x7)
      have hkI : (k : Int) < (n : Int) := by omega
      have hszr : w.heap.size ≤ wr.heap.size := HB.out.size
      clear hs hr hrow
      go_wp2_with (go_at_call 27; refine (C.out _).mono ?_; rintro e w' ⟨rfl, hb⟩)
      · have h1 : (r != 0) = true := by assumption
        have HF : Hid (Below w.heap.size w w') := (HB.out.alloc hszr _).trans (hb.mono (by simp; omega))
        go_ret
        have h2 : r ≠ 0 := by simpa using h1
        exact ⟨by rw [HE.out, HS.out, if_neg h2]; rfl, HF.out⟩
      · have h1 : (r != 0) = false := by assumption
        have h2 : r = 0 := by simpa using h1
        have HF : Hid (Below w.heap.size w w') := (HB.out.alloc hszr _).trans (hb.mono (by simp; omega))
        clear hb
        go_roundw
        case rel =>
          refine ⟨k + 1, by omega, by go_num, ?_, HF.out⟩
          show dataE ds = _
          rw [HE.out, HS.out, if_pos h2]
        case measure => simp [intOf]; omega
    · go_wp2
      go_ret
      refine ⟨?_, HB.out⟩
      rw [HE.out, List.drop_of_length_le (by have := HR.out.1; omega)]
      rfl

/-- The error of data and a number of parities, as the reference has it. -/
def datE (n : Nat) (ds : List (List Int)) (count : Int) : Int := if n = 0 then 10 else if 12 < n then 8 else if dataE ds ≠ 0 then dataE ds else if inB count 1 4 then 0 else 2

theorem dataErr_any (A : Option Addr) (n c : Nat) (ds : List (List Int)) (count : Int) (w : World) (hr : RdD w A n ds) (hn : n ≤ 1000000) :
    Calls Tryd.prog 6 #[.slice A n c, .int .i64 count] w
      fun e w' => e = .returned (.int .i64 (datE n ds count)) ∧ Below w.heap.size w w' := by
  have HR := Lib.hid hr; clear hr
  have HD : Hid (datE n ds count = if n = 0 then 10 else if 12 < n then 8 else if dataE ds ≠ 0 then dataE ds else if inB count 1 4 then 0 else 2) := rfl
  by_cases h0 : n = 0
  · have h0' : (n : Int) = 0 := by omega
    have h0b : ((n : Int) == 0) = true := by simpa using h0'
    go_enter Tryd.func6, Tryd.ntmps6
    go_wp2
    go_ret
    exact ⟨by rw [HD.out, if_pos h0]; rfl, Below.refl _ _⟩
  by_cases h1 : 12 < n
  · have h0b : ((n : Int) == 0) = false := by simp; omega
    have h1' : (12 : Int) < (n : Int) := by omega
    go_enter Tryd.func6, Tryd.ntmps6
    go_wp2
    go_ret
    exact ⟨by rw [HD.out, if_neg h0, if_pos h1]; rfl, Below.refl _ _⟩
  have h0b : ((n : Int) == 0) = false := by simp; omega
  have h1' : ¬ (12 : Int) < (n : Int) := by omega
  obtain ⟨b, hb⟩ : ∃ b, inB count 1 4 = b := ⟨_, rfl⟩
  have CW : Hid (∀ W, Calls Tryd.prog 13 #[.int .i64 count, .int .i64 1, .int .i64 4] W fun e w' => e = .returned (.bool b) ∧ W = w') := fun W => by rw [← hb]; exact within_any _ _ _ W
  rw [hb, if_neg h0, if_neg h1] at HD
  clear hb
  go_enter Tryd.func6, Tryd.ntmps6
  go_wp2
  go_loopw [4, 5, 6] (fun _ i _ wr => ∃ k : Nat, k ≤ n ∧ i = .int .i64 k ∧ Hid (dataE ds = dataE (ds.drop k)) ∧ Hid (Below w.heap.size w wr)) (fun _ i _ _ => n - (intOf i).toNat)
  case atStart => exact ⟨0, Nat.zero_le _, rfl, rfl, Below.refl _ _⟩
  case round =>
    obtain ⟨k, hk, rfl, HE, HB⟩ := hrel
    by_cases hlt : k < n
    · obtain ⟨ad, x0, x1, x2, x3, x4, x5, x6, x7, rfl, hbl, hrow, p0, p1, p2, p3, p4, p5, p6, p7⟩ := (HR.out.below HB.out).row hlt
      have hs := dataE_step ds k (by have := HR.out.1; omega)
      rw [hrow] at hs
      obtain ⟨r, hr⟩ : ∃ r, rangesE [x0, x1, x2, x3, x4, x5, x6, x7] (-32767) 32767 = r := ⟨_, rfl⟩
      rw [hr] at hs
      have HS := Lib.hid hs
      have C : Hid (∀ W, Calls Tryd.prog 23 #[.agg #[.int .i64 x0, .int .i64 x1, .int .i64 x2, .int .i64 x3, .int .i64 x4, .int .i64 x5, .int .i64 x6, .int .i64 x7]] W fun e w' => e = .returned (.int .i64 r) ∧ Below W.heap.size W w') := fun W => by rw [← hr]; exact samplesErr_any _ _ W (is8_lit x0 x1 x2 x3 x4 x5 x6 x7)
      have hkI : (k : Int) < (n : Int) := by omega
      have hszr : w.heap.size ≤ wr.heap.size := HB.out.size
      clear hs hr hrow
      go_wp2_with (go_at_call 23; refine (C.out _).mono ?_; rintro e w' ⟨rfl, hb⟩)
      · have h1 : (r != 0) = true := by assumption
        have HF : Hid (Below w.heap.size w w') := HB.out.trans (hb.mono (by omega))
        go_ret
        have h2 : r ≠ 0 := by simpa using h1
        have h3 : dataE ds = r := by rw [HE.out, HS.out, if_neg h2]
        exact ⟨by rw [HD.out, h3, if_pos h2]; rfl, HF.out⟩
      · have h1 : (r != 0) = false := by assumption
        have h2 : r = 0 := by simpa using h1
        have HF : Hid (Below w.heap.size w w') := HB.out.trans (hb.mono (by omega))
        clear hb
        go_roundw
        case rel =>
          refine ⟨k + 1, by omega, by go_num, ?_, HF.out⟩
          show dataE ds = _
          rw [HE.out, HS.out, if_pos h2]
        case measure => simp [intOf]; omega
    · have h3 : Hid (dataE ds = 0) := by
        show _ = _
        rw [HE.out, List.drop_of_length_le (by have := HR.out.1; omega)]
        rfl
      have HF := Lib.hid HB.out
      rw [h3.out] at HD
      clear HE HB
      cases b
      all_goals
        go_wp2_with (go_at_call 13; refine (CW.out _).mono ?_; rintro e w' ⟨rfl, rfl⟩)
        go_ret
        exact ⟨by rw [HD.out]; rfl, HF.out⟩

end Go.Proofs.YtjjflbnopphciabDoor

namespace Go.Proofs.YtjjflbnopphciabDoor
open Go.ChangeShapes Go.WideShapes Go.ChangeAt Go.RowKit

set_option maxRecDepth 100000 in
theorem arr8_cells {H : Type} {enc : TypeId × Value → H} {w : World} {base : Nat} {spare : Nat → Bool} {held : Bool} {fuel : Nat} {cs : List Value} {x : DataW H × List MemPlace}
    (hf : DataW.trod enc Tryd.prog w base spare held fuel 34 cs = some x) : ∃ l : List Int, l.length = 8 ∧ cs = l.map (Value.int .i64) := by
  obtain ⟨us, m, _, _, hl0, hul, hel⟩ := DataW.trod_array arrUnder hf
  have h8 : Tryd.prog.cellsOf 34 = 8 := by kernel_rfl
  have hl8 : cs.length = 8 := by rw [hl0, h8]
  have el : ∀ i, i < 8 → ∃ z : Int, cs[i]? = some (.int .i64 z) := by
    intro i hi
    have q := hel i hi
    rw [cellsInt, List.getElem?_eq_getElem (show i < us.length by omega)] at q
    obtain ⟨z, e, _⟩ := DataW.trod_int Tryd.underlying3 q
    refine ⟨z, ?_⟩
    have := congrArg (fun x : List Value => x[0]?) e
    simp only [List.getElem?_take, List.getElem?_drop] at this
    simpa [Value.cells] using this
  obtain ⟨f, hf2⟩ := Deep.choose_lt (α := Int) (n := 8) (p := fun i z => cs[i]? = some (.int .i64 z)) el
  refine ⟨(List.range 8).map f, by simp, ?_⟩
  apply List.ext_getElem? 
  intro i
  by_cases hi : i < 8
  · rw [hf2 i hi]; simp [hi]
  · rw [List.getElem?_eq_none (by omega), List.getElem?_eq_none (by simp; omega)]

set_option maxRecDepth 100000 in
/-- Blocks of eight as they come in. -/
theorem open_datas {H : Type} {enc : TypeId × Value → H} {w : World} {base : Nat} {spare : Nat → Bool} {held : Bool} {A : Option Addr} {n c : Nat} {d : DataW H} {p : List MemPlace}
    (h : DataW.Trod enc Tryd.prog w base spare held 22 (.slice A n c) d p) : ∃ ds, RdD w A n ds ∧ (A = none → n = 0 ∧ c = 0) := by
  obtain ⟨fuel, hf⟩ := h
  have h8 : Tryd.prog.cellsOf 34 = 8 := by kernel_rfl
  rcases Deep.open_slice Tryd.underlying22 hf with ⟨hcs, _⟩ | ⟨a, len, cap, m, k, D, Pl, hcs, _, hl, hm, hz, _, hx⟩
  · simp [Value.cells] at hcs
    obtain ⟨rfl, rfl, rfl⟩ := hcs
    exact ⟨[], ⟨rfl, fun i hi => by simp at hi, fun h => absurd h (by omega)⟩, fun _ => ⟨rfl, rfl⟩⟩
  · simp [Value.cells] at hcs
    obtain ⟨rfl, rfl, rfl⟩ := hcs
    have hlen : n ≤ m := by rw [hz]; split <;> omega
    obtain ⟨f, hf⟩ := Deep.choose_lt (α := List Int) (n := n) (p := fun i q => q.length = 8 ∧ ∀ j, j < 8 → w.cell? ((a.add (i * 8)).add j) = some (.int .i64 (q.getD j 0))) (fun i hi => by
      obtain ⟨cs, h1, h2⟩ := hx i (by omega)
      obtain ⟨l, hl8, rfl⟩ := arr8_cells h2
      rw [h8] at h1
      obtain ⟨_, _, h3⟩ := World.cells?_some h1
      refine ⟨l, hl8, fun j hj => ?_⟩
      have h4 := h3 j (by simpa [hl8] using hj)
      rw [h4]
      simp [List.getD_eq_getElem?_getD, List.getElem?_eq_getElem (show j < l.length by omega)])
    have e : ∀ j, j < n → ((List.range n).map f).getD j [] = f j := fun j hj => by simp [List.getD_eq_getElem?_getD, hj]
    refine ⟨(List.range n).map f, ⟨by simp, fun i hi => ?_, fun hn => ⟨a, rfl, ?_, fun i j hi hj => ?_⟩⟩, fun h => by cases h⟩
    · have hi' : i < n := by simpa using hi
      rw [e i hi']; exact (hf i hi').1
    · have := block_lt_of_cell ((hf 0 (by omega)).2 0 (by omega))
      rwa [addBlock, addBlock] at this
    · unfold dc
      rw [e i hi]
      exact (hf i hi).2 j hj

end Go.Proofs.YtjjflbnopphciabDoor

namespace Go.Proofs.YtjjflbnopphciabDoor
open Go.RowKit

/-- How many blocks so many samples make. -/
def cntN (n : Nat) : Nat := (n + 7) / 8

theorem floor8 (n : Int) : n.tdiv 8 - (if n.tmod 8 < 0 then 1 else 0) = n / 8 := by
  have h := Int.mul_tdiv_add_tmod n 8
  by_cases h0 : n.tmod 8 < 0
  · have h1 := tmod_neg n 8 (by omega) h0
    rw [if_pos h0]
    generalize n.tdiv 8 = q at *
    generalize n.tmod 8 = r at *
    omega
  · have h1 := tmod_pos n 8 (by omega) (by omega)
    rw [if_neg h0]
    generalize n.tdiv 8 = q at *
    generalize n.tmod 8 = r at *
    omega

theorem belowDrewN {n0 : Nat} {w w' : World} (h : Below n0 w w') : ∀ k, Below n0 w (w'.drewN k) := fun _ => ⟨h.1, h.2, h.3, h.4, h.5⟩
theorem quietW {P : Program} {f : FuncId} {args : Array Value} {w : World} {n : Nat} {v : Value}
    (h : Calls P f args (w.drewN n) fun e w' => e = .returned v ∧ w.drewN n = w') : Calls P f args (w.drewN n) fun e w'' => e = .returned v ∧ ∃ m, w'' = w.drewN m :=
  h.mono fun _ _ ⟨he, hm⟩ => ⟨he, n, hm.symm⟩

/-- The error of a signal that is cut into blocks. -/
def cutE (n : Nat) (xs : List Int) (h c : Int) : Int :=
  if 40 < cntN n then 8 else if smpB xs = false then 2 else if rangeE h 0 3 = 2 then 2 else if inB c 0 65535 = false then 2 else if 65535 < c + ((cntN n - 1 : Nat) : Int) then 2 else 0

theorem rangeE_two (n lo hi : Int) : rangeE n lo hi = 0 ∨ rangeE n lo hi = 2 := by
  unfold rangeE; split
  · exact .inl rfl
  · exact .inr rfl

end Go.Proofs.YtjjflbnopphciabDoor

namespace Go.Proofs.YtjjflbnopphciabDoor
open Go.RowKit

def bkA (c h x0 x1 x2 x3 x4 x5 x6 x7 s : Int) : Array Value := #[.int .i64 c, .int .i64 h, .int .i64 x0, .int .i64 x1, .int .i64 x2, .int .i64 x3, .int .i64 x4, .int .i64 x5, .int .i64 x6, .int .i64 x7, .int .i64 s]

def Wf (x : Int) : Prop := (Lit.int .i64 x).wf = true
theorem klInt (d : Nat) (x : Int) (hx : Wf x) : Tryd.prog.keyLits (d + 1) 3 [.int .i64 x] = some [.int .i64 x] := by
  unfold Program.keyLits
  rw [underInt']
  simp [show (Lit.int .i64 x).wf = true from hx]

theorem klArr (x0 x1 x2 x3 x4 x5 x6 x7 : Int) : Tryd.prog.keyLits 9 34 [.int .i64 x0, .int .i64 x1, .int .i64 x2, .int .i64 x3, .int .i64 x4, .int .i64 x5, .int .i64 x6, .int .i64 x7]
    = (([x0, x1, x2, x3, x4, x5, x6, x7].mapM fun x => Tryd.prog.keyLits 8 3 [.int .i64 x]).map List.flatten) := by kernel_rfl
theorem klBlk (c h x0 x1 x2 x3 x4 x5 x6 x7 s : Int) : Tryd.prog.keyLits 10 58 (Value.agg (bkA c h x0 x1 x2 x3 x4 x5 x6 x7 s)).cells.toList
    = (([(3, [.int .i64 c]), (3, [.int .i64 h]), (34, [.int .i64 x0, .int .i64 x1, .int .i64 x2, .int .i64 x3, .int .i64 x4, .int .i64 x5, .int .i64 x6, .int .i64 x7]), (3, [Value.int .i64 s])].mapM fun (p : TypeId × List Value) => Tryd.prog.keyLits 9 p.1 p.2).map List.flatten) := by kernel_rfl
theorem blkKey : Tryd.prog.keyTypeAt 10 58 = true := by kernel_rfl
theorem blkFormed (c h x0 x1 x2 x3 x4 x5 x6 x7 s : Int) : (Value.agg (bkA c h x0 x1 x2 x3 x4 x5 x6 x7 s)).formed Tryd.prog 58 = true := by kernel_rfl

theorem neqB_self (c h x0 x1 x2 x3 x4 x5 x6 x7 s : Int) (hc : Wf c) (hh : Wf h) (h0 : Wf x0) (h1 : Wf x1) (h2 : Wf x2) (h3 : Wf x3) (h4 : Wf x4) (h5 : Wf x5) (h6 : Wf x6) (h7 : Wf x7) (hs : Wf s) (W : World) :
    (binOp .neq 58 (.agg (bkA c h x0 x1 x2 x3 x4 x5 x6 x7 s)) (.agg (bkA c h x0 x1 x2 x3 x4 x5 x6 x7 s))).run Tryd.prog W = .ok (.bool false) W := by
  obtain ⟨la, hla⟩ : ∃ la, Tryd.prog.keyLits 10 58 (Value.agg (bkA c h x0 x1 x2 x3 x4 x5 x6 x7 s)).cells.toList = some la := by
    rw [klBlk]
    simp only [List.mapM_cons, List.mapM_nil, klInt 8 _ hc, klInt 8 _ hh, klInt 8 _ hs, klArr, klInt 7 _ h0, klInt 7 _ h1, klInt 7 _ h2, klInt 7 _ h3, klInt 7 _ h4, klInt 7 _ h5, klInt 7 _ h6, klInt 7 _ h7]
    exact ⟨_, rfl⟩
  have hf := blkFormed c h x0 x1 x2 x3 x4 x5 x6 x7 s
  obtain ⟨r, hr, hi⟩ := run_equalIn_deep 9990 10 58 blkKey W 10 10 _ _ _ _ hf hf hla hla
  rw [run_neq_struct, hr, hi.2 rfl]
  rfl

theorem wf_of (x : Int) (h : -1000000 ≤ x ∧ x ≤ 1000000) : Wf x := by
  unfold Wf
  have e1 : IntKind.i64.min = -9223372036854775808 := by decide
  have e2 : IntKind.i64.max = 9223372036854775807 := by decide
  simp [Lit.wf]
  omega


/-- A block's numbers: counter, channel, eight samples, sum. -/
structure Bl where
  c : Int
  h : Int
  xs : List Int
  s : Int
def Bl.arr (b : Bl) : Array Value := bkA b.c b.h (b.xs.getD 0 0) (b.xs.getD 1 0) (b.xs.getD 2 0) (b.xs.getD 3 0) (b.xs.getD 4 0) (b.xs.getD 5 0) (b.xs.getD 6 0) (b.xs.getD 7 0) b.s
structure Bl.Ok (b : Bl) : Prop where
  c : -1000000 ≤ b.c ∧ b.c ≤ 1000000
  h : -1000000 ≤ b.h ∧ b.h ≤ 1000000
  x : ∀ i, i < 8 → -1000000 ≤ b.xs.getD i 0 ∧ b.xs.getD i 0 ≤ 1000000
  s : -1000000 ≤ b.s ∧ b.s ≤ 1000000
def bl0 : Bl := ⟨0, 0, [], 0⟩
theorem Bl.neq_self {b : Bl} (h : b.Ok) (W : World) : (binOp .neq 58 (.agg b.arr) (.agg b.arr)).run Tryd.prog W = .ok (.bool false) W :=
  neqB_self _ _ _ _ _ _ _ _ _ _ _ (wf_of _ h.c) (wf_of _ h.h) (wf_of _ (h.x 0 (by omega))) (wf_of _ (h.x 1 (by omega))) (wf_of _ (h.x 2 (by omega))) (wf_of _ (h.x 3 (by omega))) (wf_of _ (h.x 4 (by omega))) (wf_of _ (h.x 5 (by omega))) (wf_of _ (h.x 6 (by omega))) (wf_of _ (h.x 7 (by omega))) (wf_of _ h.s) W

/-- A slice reads as a list of blocks. -/
def RdB (w : World) (A : Option Addr) (n : Nat) (bs : List Bl) : Prop :=
  bs.length = n ∧ (0 < n → ∃ g, A = some ⟨g, 0, none⟩ ∧ g < w.heap.size ∧ ∀ j, j < n → w.rangeAt g (j * 11) (bs.getD j bl0).arr.toList)
theorem RdB.below {w w' : World} {A : Option Addr} {n : Nat} {bs : List Bl} (h : RdB w A n bs) (hb : Below w.heap.size w w') : RdB w' A n bs := by
  refine ⟨h.1, fun h0 => ?_⟩
  obtain ⟨g, hA, hg, hc⟩ := h.2 h0
  exact ⟨g, hA, Nat.lt_of_lt_of_le hg hb.size, fun j hj i v hv => (hb.cell (p := ⟨g, j * 11 + i, none⟩) hg).trans (hc j hj i v hv)⟩
theorem underBlk : Tryd.prog.underlying 58 = some (.struct (Tryd.prog.fieldsOf 58)) := by kernel_rfl
theorem infoBlk (b : Bl) : (Tryd.prog.info? 58).map (·.size) = some b.arr.toList.length := by kernel_rfl

end Go.Proofs.YtjjflbnopphciabDoor

namespace Go.Proofs.YtjjflbnopphciabDoor
open Go.RowKit

theorem getD_out (l : List Int) (k : Nat) (h : l.length ≤ k) : l.getD k 0 = 0 := by
  rw [List.getD_eq_getElem?_getD, List.getElem?_eq_none h]; rfl
theorem len_consT {α : Type} (l : List α) (n : Nat) (h : l.length = n + 1) : ∃ a r, l = a :: r ∧ r.length = n := by
  cases l with
  | nil => simp at h
  | cons a r => exact ⟨a, r, rfl, by simpa using h⟩
/-- The first k samples of block i, then zeros. -/
def part8 (xs : List Int) (i k : Nat) : List Int := (List.range 8).map fun j => if j < k then xs.getD (i * 8 + j) 0 else 0
theorem part8_length (xs : List Int) (i k : Nat) : (part8 xs i k).length = 8 := by simp [part8]
theorem part8_at (xs : List Int) (i k j : Nat) (hj : j < 8) : (part8 xs i k).getD j 0 = if j < k then xs.getD (i * 8 + j) 0 else 0 := by
  simp [part8, List.getD_eq_getElem?_getD, hj]
theorem part8_step (xs : List Int) (i k : Nat) : (part8 xs i k).set k (xs.getD (i * 8 + k) 0) = part8 xs i (k + 1) := by
  apply List.ext_getElem (by simp [part8])
  intro j h1 h2
  rw [List.getElem_set]
  simp only [part8, List.getElem_map, List.getElem_range]
  by_cases e : k = j
  · subst e; simp
  · rw [if_neg e]
    by_cases h : j < k
    · rw [if_pos h, if_pos (by omega)]
    · rw [if_neg h, if_neg (by omega)]
theorem part8_end (xs : List Int) (i k : Nat) (h : xs.length ≤ i * 8 + k) : part8 xs i k = part8 xs i 8 := by
  apply List.ext_getElem (by simp [part8])
  intro j h1 h2
  simp only [part8, List.getElem_map, List.getElem_range]
  have hj : j < 8 := by simpa [part8] using h1
  by_cases e : j < k
  · rw [if_pos e, if_pos hj]
  · rw [if_neg e, if_pos hj, getD_out _ _ (by omega)]
theorem part8_zero (xs : List Int) (i : Nat) : part8 xs i 0 = [0, 0, 0, 0, 0, 0, 0, 0] := by simp [part8, List.range, List.range.loop]
theorem bl_set (c h : Int) (ys : List Int) (s v : Int) (k : Nat) (hl : ys.length = 8) (hk : k < 8) : (Bl.mk c h ys s).arr.setIfInBounds (2 + k) (.int .i64 v) = (Bl.mk c h (ys.set k v) s).arr := by
  obtain ⟨a0, t0, rfl, l0⟩ := len_consT ys 7 hl
  obtain ⟨a1, t1, rfl, l1⟩ := len_consT t0 6 l0
  obtain ⟨a2, t2, rfl, l2⟩ := len_consT t1 5 l1
  obtain ⟨a3, t3, rfl, l3⟩ := len_consT t2 4 l2
  obtain ⟨a4, t4, rfl, l4⟩ := len_consT t3 3 l3
  obtain ⟨a5, t5, rfl, l5⟩ := len_consT t4 2 l4
  obtain ⟨a6, t6, rfl, l6⟩ := len_consT t5 1 l5
  obtain ⟨a7, t7, rfl, l7⟩ := len_consT t6 0 l6
  obtain rfl := List.eq_nil_of_length_eq_zero l7
  match k, hk with
  | 0, _ => rfl
  | 1, _ => rfl
  | 2, _ => rfl
  | 3, _ => rfl
  | 4, _ => rfl
  | 5, _ => rfl
  | 6, _ => rfl
  | 7, _ => rfl
theorem bl_at (c h : Int) (ys : List Int) (s : Int) (k : Nat) (hk : k < 8) : (Bl.mk c h ys s).arr[2 + k]? = some (.int .i64 (ys.getD k 0)) := by
  match k, hk with
  | 0, _ => rfl
  | 1, _ => rfl
  | 2, _ => rfl
  | 3, _ => rfl
  | 4, _ => rfl
  | 5, _ => rfl
  | 6, _ => rfl
  | 7, _ => rfl
/-- Block i of a signal. -/
def blkX (xs : List Int) (h c : Int) (i : Nat) : Bl := ⟨c + i, h, part8 xs i 8, sumT (c + i) h (part8 xs i 8)⟩
def blksX (xs : List Int) (h c : Int) (k : Nat) : List Bl := (List.range k).map (blkX xs h c)
def blCells (bs : List Bl) : List Value := bs.flatMap fun b => b.arr.toList
theorem blksX_length (xs : List Int) (h c : Int) (k : Nat) : (blksX xs h c k).length = k := by simp [blksX]
theorem blksX_succ (xs : List Int) (h c : Int) (k : Nat) : blksX xs h c (k + 1) = blksX xs h c k ++ [blkX xs h c k] := by simp [blksX, List.range_succ]
theorem blCells_snoc (bs : List Bl) (b : Bl) : blCells (bs ++ [b]) = blCells bs ++ b.arr.toList := by simp [blCells]
theorem blCells_len (bs : List Bl) : (blCells bs).length = bs.length * 11 := by
  induction bs with
  | nil => rfl
  | cons b t ih => simp only [blCells, List.flatMap_cons, List.length_append, List.length_cons] at ih ⊢; rw [ih]; simp [Bl.arr, bkA]; omega
theorem blkInfo : (Tryd.prog.info? 58).map (fun i => (i.zero, i.size, i.bytes)) = some (some (.agg #[.int .i64 0, .int .i64 0, .int .i64 0, .int .i64 0, .int .i64 0, .int .i64 0, .int .i64 0, .int .i64 0, .int .i64 0, .int .i64 0, .int .i64 0]), 11, 88) := by kernel_rfl
theorem part8_bnd (xs : List Int) (i : Nat) (h : Bnd xs 32767) : Bnd [(part8 xs i 8).getD 0 0, (part8 xs i 8).getD 1 0, (part8 xs i 8).getD 2 0, (part8 xs i 8).getD 3 0, (part8 xs i 8).getD 4 0, (part8 xs i 8).getD 5 0, (part8 xs i 8).getD 6 0, (part8 xs i 8).getD 7 0] 32767 := by
  intro j
  have h2 : ∀ j, -32767 ≤ (part8 xs i 8).getD j 0 ∧ (part8 xs i 8).getD j 0 ≤ 32767 := fun j => by
    by_cases hj : j < 8
    · rw [part8_at xs i 8 j hj, if_pos hj]; exact h _
    · rw [getD_out _ _ (by rw [part8_length]; omega)]; decide
  match j with
  | 0 => exact h2 0
  | 1 => exact h2 1
  | 2 => exact h2 2
  | 3 => exact h2 3
  | 4 => exact h2 4
  | 5 => exact h2 5
  | 6 => exact h2 6
  | 7 => exact h2 7
  | j + 8 => simp


theorem new11 (w : World) (arr : Array Value) (t : TypeId) : ∀ j u, arr.toList[j]? = some u → (w.alloc (.cells arr t)).cell? ((⟨w.heap.size, 0, none⟩ : Addr).add j) = some u := by
  intro j u hj
  rw [Addr.add_mid, Nat.zero_add, cell_of_row _ _ _ _ _ (0, 0) (heap_alloc_new w _)]
  simpa using hj

theorem eight_eq (ys : List Int) (hl : ys.length = 8) : [ys.getD 0 0, ys.getD 1 0, ys.getD 2 0, ys.getD 3 0, ys.getD 4 0, ys.getD 5 0, ys.getD 6 0, ys.getD 7 0] = ys := by
  obtain ⟨a0, t0, rfl, l0⟩ := len_consT ys 7 hl
  obtain ⟨a1, t1, rfl, l1⟩ := len_consT t0 6 l0
  obtain ⟨a2, t2, rfl, l2⟩ := len_consT t1 5 l1
  obtain ⟨a3, t3, rfl, l3⟩ := len_consT t2 4 l2
  obtain ⟨a4, t4, rfl, l4⟩ := len_consT t3 3 l3
  obtain ⟨a5, t5, rfl, l5⟩ := len_consT t4 2 l4
  obtain ⟨a6, t6, rfl, l6⟩ := len_consT t5 1 l5
  obtain ⟨a7, t7, rfl, l7⟩ := len_consT t6 0 l6
  obtain rfl := List.eq_nil_of_length_eq_zero l7
  rfl

theorem ownBelowT {w w' : World} {base : Nat} {e : TypeId} {size : Nat} {v : Value} {n : Nat} {xs : List Value} (h : w.ownsRow base e size v n xs) (hb : Below w.heap.size w w') : w'.ownsRow base e size v n xs := by
  refine ⟨h.1, ?_⟩
  rcases h.2 with h0 | ⟨g, cap, cur, h1, h2, h3, h4⟩
  · exact .inl h0
  · exact .inr ⟨g, cap, cur, h1, h2, (hb.block g (Array.getElem?_eq_some_iff.1 h3).1).trans h3, h4⟩
theorem own_formT {w : World} {base size n : Nat} {t : TypeId} {v : Value} {xs : List Value} (h : w.ownsRow base t size v n xs) : ∃ A cap, v = .slice A n cap ∧ (0 < n → ∃ g, A = some ⟨g, 0, none⟩) := by
  rcases h.2 with ⟨rfl, rfl⟩ | ⟨g, cap, cur, rfl, _⟩
  · exact ⟨none, 0, rfl, fun h => absurd h (by omega)⟩
  · exact ⟨_, cap, rfl, fun _ => ⟨g, rfl⟩⟩
end Go.Proofs.YtjjflbnopphciabDoor

namespace Go.Proofs.YtjjflbnopphciabDoor
open Go.RowKit

/-- The last counter, as the machine adds it. -/
def lastC (k : Nat) (c : Int) : Int := IntKind.i64.wrap (IntKind.i64.wrap (c + (if (k : Int) < 1 then (1 : Int) else (k : Int))) - 1)
theorem lastC_ok (k : Nat) (c : Int) (hc : 0 ≤ c ∧ c ≤ 65535) (hk : k ≤ 1000) : lastC k c = c + ((k - 1 : Nat) : Int) := by
  unfold lastC
  have e : (if (k : Int) < 1 then (1 : Int) else (k : Int)) = ((k - 1 : Nat) : Int) + 1 := by split <;> omega
  rw [e, show IntKind.i64.wrap (c + (((k - 1 : Nat) : Int) + 1)) = c + (((k - 1 : Nat) : Int) + 1) from IntWalk.i64_in _ (by omega), show IntKind.i64.wrap (c + (((k - 1 : Nat) : Int) + 1) - 1) = c + (((k - 1 : Nat) : Int) + 1) - 1 from IntWalk.i64_in _ (by omega)]
  omega
theorem cutE_first (n : Nat) (xs : List Int) (h c : Int) (hn : n ≤ 7000) :
    firstE [whenE (decide (40 < cntN n)) 8, rangesE xs (-32767) 32767, rangeE h 0 3, rangeE c 0 65535, rangeE (lastC (cntN n) c) 0 65535] = cutE n xs h c := by
  have hk : cntN n ≤ 1000 := by unfold cntN; omega
  unfold cutE
  generalize cntN n = k at *
  by_cases h1 : 40 < k
  · rw [if_pos h1]; simp [whenE, h1, firstE]
  · rw [if_neg h1]
    simp only [whenE, h1, decide_false, Bool.false_eq_true, if_false]
    rcases rangesE_cases xs (-32767) 32767 with e1 | e1
    · have es : smpB xs = true := by simp [smpB, e1]
      rw [es, e1]
      rcases rangeE_two h 0 3 with e2 | e2
      · rw [e2]
        by_cases h3 : inB c 0 65535 = true
        · have hc : 0 ≤ c ∧ c ≤ 65535 := by simp [inB] at h3; omega
          rw [show rangeE c 0 65535 = 0 by simp [rangeE, h3], lastC_ok k c hc hk, h3]
          by_cases h4 : 65535 < c + ((k - 1 : Nat) : Int)
          · rw [if_pos h4]; simp [rangeE, inB, firstE]; omega
          · rw [if_neg h4]; simp [rangeE, inB, firstE]; omega
        · have h3' : inB c 0 65535 = false := by simpa using h3
          rw [show rangeE c 0 65535 = 2 by simp [rangeE, h3'], h3']
          simp [firstE]
      · rw [e2]; simp [firstE]
    · have es : smpB xs = false := by simp [smpB, e1]
      rw [es, e1]; simp [firstE]

end Go.Proofs.YtjjflbnopphciabDoor

namespace Go.Proofs.YtjjflbnopphciabDoor
open Go.RowKit

theorem first5 (a b c d f : Int) (w : World) :
    Calls Tryd.prog 24 #[.slice (some ⟨w.heap.size, 0, none⟩) 5 5] (w.alloc (.cells #[.int .i64 a, .int .i64 b, .int .i64 c, .int .i64 d, .int .i64 f] 27)) fun e w' => e = .returned (.int .i64 (firstE [a, b, c, d, f])) ∧ w.alloc (.cells #[.int .i64 a, .int .i64 b, .int .i64 c, .int .i64 d, .int .i64 f] 27) = w' :=
  first_new [a, b, c, d, f] 5 _ w rfl (by omega) rfl

end Go.Proofs.YtjjflbnopphciabDoor

namespace Go.Proofs.YtjjflbnopphciabDoor

/-- A number squared so many times, modulo the prime. -/
def sqN (n : Nat) : Nat → Nat
  | 0 => n
  | i + 1 => sqN n i * sqN n i % 65537
def sq16 (n : Nat) : Nat := Nat.rec n (fun _ p => p * p % 65537) 16
def okN (n : Nat) : Bool := Nat.beq (sq16 n) 1
def chk : Nat → Nat → Bool
  | 0, lo => okN lo
  | d + 1, lo => chk d lo && chk d (lo + 2 ^ d)
theorem chk_all : chk 15 1 = true := by decide +kernel

theorem chk_of (d lo n : Nat) (h : chk d lo = true) (h0 : lo ≤ n) (h1 : n < lo + 2 ^ d) : okN n = true := by
  induction d generalizing lo with
  | zero => obtain rfl : n = lo := by simp at h1; omega
            exact h
  | succ d ih =>
    simp only [chk, Bool.and_eq_true] at h
    by_cases hc : n < lo + 2 ^ d
    · exact ih lo h.1 h0 hc
    · exact ih (lo + 2 ^ d) h.2 (by omega) (by rw [Nat.pow_succ] at h1; omega)

theorem sq16_eq (n : Nat) : sq16 n = sqN n 16 := rfl

theorem sqN_neg (n i : Nat) (h0 : n ≤ 65537) : sqN (65537 - n) (i + 1) = sqN n (i + 1) := by
  induction i with
  | zero =>
    show (65537 - n) * (65537 - n) % 65537 = n * n % 65537
    obtain ⟨m, hm⟩ : ∃ m, 65537 - n = m := ⟨_, rfl⟩
    rw [hm]
    have hmn : m + n = 65537 := by omega
    have e1 : m * n + n * n = 65537 * n := by rw [← Nat.add_mul, hmn]
    have e2 : m * m + n * m = 65537 * m := by rw [← Nat.add_mul, hmn]
    have e3 := Nat.mul_comm m n
    generalize m * m = A at *
    generalize n * n = B at *
    generalize m * n = C at *
    omega
  | succ i ih => 
    show sqN (65537 - n) (i + 1) * sqN (65537 - n) (i + 1) % 65537 = _
    rw [ih]; rfl

theorem sqN_one (n : Nat) (h0 : 1 ≤ n) (h1 : n ≤ 65536) : sqN n 16 = 1 := by
  have key : ∀ m, 1 ≤ m → m ≤ 32768 → sqN m 16 = 1 := fun m a b => by
    have := chk_of 15 1 m chk_all a (by omega)
    rw [← sq16_eq]
    exact Nat.eq_of_beq_eq_true this
  by_cases hc : n ≤ 32768
  · exact key n h0 hc
  · have := sqN_neg (65537 - n) 15 (by omega)
    have e : 65537 - (65537 - n) = n := by omega
    rw [e] at this
    rw [this]
    exact key _ (by omega) (by omega)

theorem mod_mul_l (a b : Int) : a % 65537 * b % 65537 = a * b % 65537 := by rw [Int.mul_emod, Int.emod_emod, ← Int.mul_emod]
theorem powTo_sq (n i : Nat) : powTo n i * n % 65537 = (sqN n i : Int) % 65537 := by
  induction i with
  | zero => simp [powTo, sqN]
  | succ i ih =>
    show powTo n i * powTo n i % 65537 * n % 65537 * n % 65537 = ((sqN n i * sqN n i % 65537 : Nat) : Int) % 65537
    have h1 : powTo n i * powTo n i % 65537 * n % 65537 * n % 65537 = (powTo n i * n) * (powTo n i * n) % 65537 := by
      rw [mod_mul_l, Int.mul_assoc, mod_mul_l]
      congr 1
      simp only [Int.mul_assoc, Int.mul_comm, Int.mul_left_comm]
    rw [h1, Int.mul_emod, ih]
    simp [Int.mul_emod]

theorem invT_one (n : Nat) (h0 : 1 ≤ n) (h1 : n ≤ 65536) : (n : Int) * invT n % 65537 = 1 := by
  rw [Int.mul_comm]
  show powTo n 16 * n % 65537 = 1
  rw [powTo_sq, sqN_one n h0 h1]
  rfl

theorem invT_mul (n : Int) (h0 : 1 ≤ n) (h1 : n ≤ 65536) : n * invT n % 65537 = 1 := by
  obtain ⟨m, rfl⟩ := Int.eq_ofNat_of_zero_le (show 0 ≤ n by omega)
  exact invT_one m (by omega) (by omega)
theorem invT_pos (n : Int) (h0 : 1 ≤ n) (h1 : n ≤ 65536) : 1 ≤ invT n := by
  have h := invT_mul n h0 h1
  have b := invT_bd n
  rcases Int.lt_or_le 0 (invT n) with hp | hp
  · omega
  · have : invT n = 0 := by omega
    rw [this] at h; simp at h

end Go.Proofs.YtjjflbnopphciabDoor

namespace Go.Proofs.YtjjflbnopphciabDoor
open Go.RowKit

/-- Blocks as cells. -/
def dCells (ds : List (List Int)) : List Value := ds.flatMap fun x => x.map (Value.int .i64)
theorem Ok8.head {x : List Int} {t : List (List Int)} (h : Ok8 (x :: t)) : x.length = 8 := by simpa using h 0 (by simp)
theorem Ok8.tail {x : List Int} {t : List (List Int)} (h : Ok8 (x :: t)) : Ok8 t := fun i hi => by simpa using h (i + 1) (by simpa using hi)
theorem Ok8.nil : Ok8 [] := fun i hi => by simp at hi
theorem Ok8.snoc {x : List Int} {t : List (List Int)} (h : Ok8 t) (hx : x.length = 8) : Ok8 (t ++ [x]) := fun i hi => by
  simp only [List.length_append, List.length_singleton] at hi
  by_cases e : i < t.length
  · rw [List.getD_eq_getElem?_getD, List.getElem?_append_left e, ← List.getD_eq_getElem?_getD]; exact h i e
  · obtain rfl : i = t.length := by omega
    simpa using hx
theorem dCells_len (ds : List (List Int)) (h : Ok8 ds) : (dCells ds).length = ds.length * 8 := by
  induction ds with
  | nil => rfl
  | cons x t ih =>
    have := ih h.tail
    simp only [dCells, List.flatMap_cons, List.length_append, List.length_map, List.length_cons] at this ⊢
    rw [this, h.head]; omega
theorem dCells_at (ds : List (List Int)) (h : Ok8 ds) (i k : Nat) (hi : i < ds.length) (hk : k < 8) : (dCells ds)[i * 8 + k]? = some (.int .i64 (dc ds i k)) := by
  induction ds generalizing i with
  | nil => simp at hi
  | cons x t ih =>
    have hx := h.head
    cases i with
    | zero =>
      simp only [dCells, List.flatMap_cons, Nat.zero_mul, Nat.zero_add]
      rw [List.getElem?_append_left (by rw [List.length_map, hx]; exact hk)]
      simp [dc, List.getElem?_map, List.getD_eq_getElem?_getD, List.getElem?_eq_getElem (show k < x.length by omega)]
    | succ i =>
      simp only [dCells, List.flatMap_cons]
      rw [List.getElem?_append_right (by rw [List.length_map, hx]; omega), List.length_map, hx, show (i + 1) * 8 + k - 8 = i * 8 + k by omega]
      have := ih h.tail i (by simpa using hi)
      simpa [dCells, dc] using this
theorem dCells_snoc (ds : List (List Int)) (x : List Int) : dCells (ds ++ [x]) = dCells ds ++ x.map (Value.int .i64) := by simp [dCells]
theorem dCells_one (ds : List (List Int)) : ∀ v ∈ dCells ds, v.oneCell' = true := by
  intro v hv
  obtain ⟨x, _, hx⟩ := List.mem_flatMap.1 hv
  obtain ⟨z, _, rfl⟩ := List.mem_map.1 hx
  rfl

theorem RdD.of_own {w : World} {base n c : Nat} {A : Option Addr} {ds : List (List Int)} (h : w.ownsRow base 34 8 (.slice A n c) n (dCells ds)) (hl : ds.length = n) (h8 : Ok8 ds) : RdD w A n ds := by
  refine ⟨hl, h8, fun h0 => ?_⟩
  rcases h.2 with ⟨_, e⟩ | ⟨g, cap, cur, e, _, hg, h1, h2, h3, h4⟩
  · omega
  · simp only [Value.slice.injEq] at e
    obtain ⟨rfl, _, rfl⟩ := e
    refine ⟨⟨g, 0, none⟩, rfl, (Array.getElem?_eq_some_iff.1 hg).1, fun i k hi hk => ?_⟩
    rw [Addr.add_mid, Addr.add_mid, Nat.zero_add, cell_of_row w g (i * 8 + k) cur _ (0, 0) hg, ← Array.getElem?_toList]
    have e1 : (cur.toList.take (n * 8))[i * 8 + k]? = some (.int .i64 (dc ds i k)) := by rw [h4]; exact dCells_at ds h8 i k (by omega) hk
    rw [List.getElem?_take, if_pos (by omega)] at e1
    exact e1
theorem RdD.src {w : World} {ad : Addr} {n : Nat} {ds : List (List Int)} (h : RdD w (some ad) n ds) : ∀ j u, (dCells ds)[j]? = some u → w.cell? (ad.add j) = some u := by
  intro j u hu
  have hj := (List.getElem?_eq_some_iff.1 hu).1
  rw [dCells_len ds h.2.1, h.1] at hj
  obtain ⟨ad', ha, _, hc⟩ := h.2.2 (by omega)
  obtain rfl := Option.some.inj ha
  have := hc (j / 8) (j % 8) (by omega) (by omega)
  rw [add_add', show j / 8 * 8 + j % 8 = j by omega] at this
  rw [this, ← hu]
  have := dCells_at ds h.2.1 (j / 8) (j % 8) (by rw [h.1]; omega) (by omega)
  rw [show j / 8 * 8 + j % 8 = j by omega] at this
  exact this.symm

theorem own_form8 {w : World} {base size n : Nat} {t : TypeId} {v : Value} {xs : List Value} (h : w.ownsRow base t size v n xs) : ∃ A cap, v = .slice A n cap ∧ n ≤ cap ∧ cap ≤ 9223372036854775807 ∧ (A = none → n = 0 ∧ cap = 0) := by
  rcases h.2 with ⟨rfl, rfl⟩ | ⟨g, cap, cur, rfl, _, _, h1, h2, _⟩
  · exact ⟨none, 0, rfl, by omega, by omega, fun _ => ⟨rfl, rfl⟩⟩
  · exact ⟨_, cap, rfl, h1, by unfold maxLen at h2; omega, fun h => by cases h⟩

theorem arr8Info : (Tryd.prog.info? 34).map (fun i => (i.zero, i.size, i.bytes)) = some (some (.agg zero8), 8, 64) := by kernel_rfl

theorem copyData_own (A : Option Addr) (n c : Nat) (ds : List (List Int)) (w : World) (hA : A = none → n = 0 ∧ c = 0) (hr : RdD w A n ds) (hn : n ≤ 100000) :
    Calls Tryd.prog 8 #[.slice A n c] w fun e w' => ∃ v, e = .returned v ∧ w'.ownsRow w.heap.size 34 8 v n (dCells ds) ∧ Below w.heap.size w w' := by
  have ho : Hid ((w.alloc (.cells #[] 34)).ownsRow w.heap.size 34 8 (.slice (some ⟨w.heap.size, 0, none⟩) 0 0) 0 []) := World.ownsRow_lit w #[] 0 (Nat.le_refl _) (by unfold maxLen; omega) rfl
  obtain ⟨i0, hi, hz0, hz1, hz2⟩ := info_parts arr8Info
  cases A with
  | none =>
    obtain ⟨rfl, rfl⟩ := hA rfl
    have hl : ds = [] := List.eq_nil_of_length_eq_zero hr.1
    subst hl
    clear hA hr
    go_enter Tryd.func8, Tryd.ntmps8
    go_wp2_with (at_builtin; refine wpList_append_own_none rfl (.tmp 3) (.tmp 4) 22 rfl w.heap.size 34 i0 8 Tryd.underlying22 hi _ _ _ rfl ho.out rfl ?_)
    go_ret
    exact ⟨_, rfl, ho.out, (Below.refl _ _).alloc (Nat.le_refl _) _⟩
  | some ad =>
    have hlen : Hid ((dCells ds).length = n * 8) := by show List.length _ = _; rw [dCells_len ds hr.2.1, hr.1]
    have hsrc : Hid (∀ j u, (dCells ds)[j]? = some u → (w.alloc (.cells #[] 34)).cell? (ad.add j) = some u) := (hr.below ((Below.refl _ _).alloc (Nat.le_refl _) _)).src
    have hone := Lib.hid (dCells_one ds)
    obtain ⟨news, hnews⟩ : ∃ news, dCells ds = news := ⟨_, rfl⟩
    rw [hnews] at hlen hsrc hone ⊢
    clear hnews hr hA
    go_enter Tryd.func8, Tryd.ntmps8
    go_wp2_with (at_builtin; refine wpList_append_own _ rfl (.tmp 3) (.tmp 4) 22 rfl w.heap.size 34 i0 _ 8 64 Tryd.underlying22 hi hz0 hz1 hz2 rfl (by decide) _ _ _ rfl ho.out ad n c news rfl hlen.out hsrc.out hone.out (by unfold maxLen; omega) (by omega) (by simp) ?_)
    intro v w2 ho2 hg2 _
    have b2 : Below w.heap.size w w2 := ((Below.refl _ _).alloc (Nat.le_refl _) _).grown hg2 (by simp) (fun g hg => (ho.out.lt g hg).1)
    have o2 := Lib.hid ho2
    have B2 := Lib.hid b2
    clear ho2 hg2 b2
    go_wp2
    go_ret
    refine ⟨_, rfl, ?_, B2.out⟩
    have := o2.out
    simpa using this
theorem copyData_any (A : Option Addr) (n c : Nat) (ds : List (List Int)) (w : World) (hA : A = none → n = 0 ∧ c = 0) (hr : RdD w A n ds) (hn : n ≤ 100000) :
    Calls Tryd.prog 8 #[.slice A n c] w fun e w' => ∃ A3 c3, e = .returned (.slice A3 n c3) ∧ (A3 = none → n = 0 ∧ c3 = 0) ∧ RdD w' A3 n ds ∧ Below w.heap.size w w' :=
  (copyData_own A n c ds w hA hr hn).mono (by
    rintro e w' ⟨v, rfl, ho, hb⟩
    obtain ⟨A3, c3, rfl, _, _, h3⟩ := own_form8 ho
    exact ⟨A3, c3, rfl, h3, RdD.of_own ho hr.1 hr.2.1, hb⟩)

theorem neq8_lit (x0 x1 x2 x3 x4 x5 x6 x7 : Int) (W : World) : (binOp .neq 34 (.agg #[.int .i64 x0, .int .i64 x1, .int .i64 x2, .int .i64 x3, .int .i64 x4, .int .i64 x5, .int .i64 x6, .int .i64 x7]) (.agg #[.int .i64 x0, .int .i64 x1, .int .i64 x2, .int .i64 x3, .int .i64 x4, .int .i64 x5, .int .i64 x6, .int .i64 x7])).run Tryd.prog W = .ok (.bool false) W := by
  have := eq8_lit x0 x1 x2 x3 x4 x5 x6 x7 W
  rw [run_eql_struct] at this
  rw [run_neq_struct]
  generalize (Op.equalIn 10000 34 (.agg #[.int .i64 x0, .int .i64 x1, .int .i64 x2, .int .i64 x3, .int .i64 x4, .int .i64 x5, .int .i64 x6, .int .i64 x7]) (.agg #[.int .i64 x0, .int .i64 x1, .int .i64 x2, .int .i64 x3, .int .i64 x4, .int .i64 x5, .int .i64 x6, .int .i64 x7])).run Tryd.prog W = r at this ⊢
  cases r with
  | ok b w' =>
    simp [Result.andThen] at this
    obtain ⟨rfl, rfl⟩ := this
    rfl
  | halt h w' => simp [Result.andThen] at this

theorem sameData_any (A B : Option Addr) (n ca cb : Nat) (ds : List (List Int)) (w : World) (ha : RdD w A n ds) (hb : RdD w B n ds) (hn : n ≤ 1000000) :
    Calls Tryd.prog 11 #[.slice A n ca, .slice B n cb] w fun e w' => e = .returned (.bool true) ∧ ∃ j, w' = w.drewN j := by
  have HA := Lib.hid ha; clear ha
  have HB := Lib.hid hb; clear hb
  go_enter Tryd.func11, Tryd.ntmps11
  go_wp2
  go_loopw [5] (fun i wr => ∃ k : Nat, k ≤ n ∧ i = .int .i64 k ∧ Hid (∃ j, wr = w.drewN j)) (fun i _ => n - (intOf i).toNat)
  case atStart => exact ⟨0, Nat.zero_le _, rfl, 0, rfl⟩
  case round =>
    obtain ⟨k, hk, rfl, HJ⟩ := hrel
    by_cases hlt : k < n
    · have HA2 : RdD wr A n ds := by obtain ⟨j, hj⟩ := HJ.out; rw [hj]; exact HA.out
      have HB2 : RdD wr B n ds := by obtain ⟨j, hj⟩ := HJ.out; rw [hj]; exact HB.out
      obtain ⟨ad, x0, x1, x2, x3, x4, x5, x6, x7, rfl, hbl, hrow, p0, p1, p2, p3, p4, p5, p6, p7⟩ := HA2.row hlt
      obtain ⟨bd, y0, y1, y2, y3, y4, y5, y6, y7, rfl, hbl2, hrow2, q0, q1, q2, q3, q4, q5, q6, q7⟩ := HB2.row hlt
      rw [hrow] at hrow2
      simp only [List.cons.injEq, and_true] at hrow2
      obtain ⟨rfl, rfl, rfl, rfl, rfl, rfl, rfl, rfl⟩ := hrow2
      have hne := neq8_lit x0 x1 x2 x3 x4 x5 x6 x7
      have hkI : (k : Int) < (n : Int) := by omega
      clear HA2 HB2 hrow
      go_wp2
      go_quiet (fail)
      go_wp2
      go_roundw
      case rel =>
        obtain ⟨j, hj⟩ := HJ.out
        exact ⟨k + 1, by omega, by go_num, by rw [hj]; exact ⟨_, World.drewN_drewN _ _ _⟩⟩
      case measure => simp [intOf]; omega
    · obtain rfl : n = k := by omega
      go_wp2
      go_ret
      exact ⟨rfl, HJ.out⟩

set_option maxRecDepth 100000 in
theorem refInverse_any (n : Int) (h0 : 0 ≤ n) (h1 : n ≤ 65536) (w : World) :
    Calls Tryd.prog 65 #[.int .i64 n] w fun e w' => e = .returned (.int .i64 (invT n)) ∧ w = w' := by
  go_enter Tryd.func65, Tryd.ntmps65
  go_wp2
  go_loop [3, 4] (fun p i => ∃ k : Nat, k ≤ 16 ∧ i = .int .i64 k ∧ p = .int .i64 (powTo n k)) (fun _ i => 16 - (intOf i).toNat)
  case atStart => exact ⟨0, by omega, rfl, rfl⟩
  case round =>
    obtain ⟨k, hk, rfl, rfl⟩ := hrel
    by_cases hlt : k < 16
    · have hb := powTo_bd n k
      have hst : Hid (powTo n (k + 1) = powTo n k * powTo n k % 65537 * n % 65537) := rfl
      obtain ⟨p, hp⟩ : ∃ p, powTo n k = p := ⟨_, rfl⟩
      rw [hp] at hst hb ⊢
      clear hp
      have hpp := mul_bd2 p p 65536 65536 hb.1 hb.1 (by omega) (by omega)
      have hm0 := Int.emod_nonneg (p * p) (show (65537 : Int) ≠ 0 by omega)
      have hm1 := Int.emod_lt_of_pos (p * p) (show (0 : Int) < 65537 by omega)
      have hpn := mul_bd2 (p * p % 65537) n 65536 65536 hm0 h0 (by omega) h1
      have t1 : (p * p).tmod 65537 = p * p % 65537 := Int.tmod_eq_emod_of_nonneg hpp.1
      have t2 : (p * p % 65537 * n).tmod 65537 = p * p % 65537 * n % 65537 := Int.tmod_eq_emod_of_nonneg hpn.1
      go_wp2
      go_round
      case rel => exact ⟨k + 1, by omega, by go_num, by rw [hst.out]⟩
      case measure => simp [intOf]; omega
    · obtain rfl : k = 16 := by omega
      go_wp2
      go_ret
      exact ⟨rfl, rfl⟩

set_option maxRecDepth 100000 in
theorem weightOf_any (i j : Int) (hi : 0 ≤ i ∧ i ≤ 1000) (hj : 0 ≤ j ∧ j ≤ 3) (w : World) :
    Calls Tryd.prog 61 #[.int .i64 i, .int .i64 j] w fun e w' => e = .returned (.int .i64 (invT (4 + i - j))) ∧ w = w' := by
  go_enter Tryd.func61, Tryd.ntmps61
  go_wp2_with (go_at_call 53; refine (inverseOf_any _ (by omega) (by omega) _).mono ?_; rintro e w' ⟨rfl, rfl⟩)
  go_ret
  exact ⟨rfl, rfl⟩
set_option maxRecDepth 100000 in
theorem factor_any (i j : Int) (hi : 0 ≤ i ∧ i ≤ 1000) (hj : 0 ≤ j ∧ j ≤ 3) (w : World) :
    Calls Tryd.prog 43 #[.int .i64 i, .int .i64 j] w fun e w' => e = .returned (.int .i64 (invT (4 + i - j))) ∧ w = w' := by
  go_enter Tryd.func43, Tryd.ntmps43
  go_wp2_with (go_at_call 65; refine (refInverse_any _ (by omega) (by omega) _).mono ?_; rintro e w' ⟨rfl, rfl⟩)
  go_ret
  exact ⟨rfl, rfl⟩

/-- The error of a number whose inverse is asked for. -/
def invE (n : Int) : Int := if inB n 0 65536 then (if n = 0 then 11 else 0) else 2
set_option maxRecDepth 100000 in
theorem inverse_err (n : Int) (w : World) (hE : invE n ≠ 0) :
    Calls Tryd.prog 19 #[.int .i64 n] w fun e w' => e = .returned (.tuple #[.int .i64 0, .int .i64 (invE n)]) ∧ Below w.heap.size w w' := by
  have HF : Hid (firstE [rangeE n 0 65536, whenE (n == 0) 11] = invE n) := by
    show _ = _
    unfold invE rangeE
    by_cases h1 : inB n 0 65536 = true
    · by_cases h0 : n = 0
      · subst h0; simp [h1, whenE, firstE]
      · simp [h1, h0, whenE, firstE]
    · have h1' : inB n 0 65536 = false := by simpa using h1
      simp [h1', whenE, firstE]
  obtain ⟨E, hEE⟩ : ∃ E, invE n = E := ⟨_, rfl⟩
  rw [hEE] at HF hE ⊢
  clear hEE
  go_enter Tryd.func19, Tryd.ntmps19
  go_wp2_with (first
    | (go_at_call 52; refine (checkNumber_any _ _).mono ?_; rintro e w' ⟨rfl, rfl⟩)
    | (go_at_call 25; refine (when_any _ _ _).mono ?_; rintro e w' ⟨rfl, rfl⟩)
    | (go_at_call 24; refine (first2 _ _ w).mono ?_; rw [HF.out]; rintro e w' ⟨rfl, rfl⟩))
  all_goals go_ret2
  all_goals exact ⟨rfl, (Below.refl _ _).alloc (Nat.le_refl _) _⟩

end Go.Proofs.YtjjflbnopphciabDoor

namespace Go.Proofs.YtjjflbnopphciabDoor
open Go.RowKit

/-- The error of one number of a lost block, after the last one. -/
def ascE (count last x : Int) : Int := if decide (x < 0) || decide (count ≤ x) then 6 else if x ≤ last then 9 else 0
/-- The error of the numbers of lost blocks. -/
def lostE (count : Int) : Int → List Int → Int
  | _, [] => 0
  | last, x :: t => if ascE count last x = 0 then lostE count x t else ascE count last x
/-- What the check of one number answers: its error, and it is the last one from now on. -/
def AscRes (b0 b1 : Nat) (count x E : Int) (w : World) (e : Ending) (w' : World) : Prop :=
  e = .returned (.int .i64 E) ∧ w'.cell? ⟨b0, 0, none⟩ = some (.int .i64 count) ∧ Bk w' b1 3 #[.int .i64 x] ∧ Below b1 w w'
set_option maxRecDepth 100000 in
set_option maxHeartbeats 4000000 in
theorem asc1_neg (x count last : Int) (b0 b1 : Nat) (w : World) (h0 : w.cell? ⟨b0, 0, none⟩ = some (.int .i64 count)) (hb : Bk w b1 3 #[.int .i64 last]) (hne : b0 < b1) (hx : x < 0) :
    Calls Tryd.prog 64 #[.int .i64 x, .pointer (some ⟨b0, 0, none⟩), .pointer (some ⟨b1, 0, none⟩)] w (AscRes b0 b1 count x (ascE count last x) w) := by
  have l0 := World.block_lt_of_cell? _ _ h0
  have h1 : w.cell? ⟨b1, 0, none⟩ = some (.int .i64 last) := by rw [hb.cell]; rfl
  have HA0 : Hid (∀ o, (w.drew.alloc o).cell? ⟨b0, 0, none⟩ = some (.int .i64 count)) := fun o => (World.cell?_alloc_lt w.drew _ _ l0).trans h0
  have HA1 : Hid (∀ o, (w.drew.alloc o).cell? ⟨b1, 0, none⟩ = some (.int .i64 last)) := fun o => (World.cell?_alloc_lt w.drew _ _ hb.lt).trans h1
  have H0 := Lib.hid h0
  have H1 := Lib.hid h1
  have HAB : Hid (∀ o, Bk (w.alloc o) b1 3 #[.int .i64 last]) := fun o => hb.alloc o
  have dx : decide (x < 0) = true := decide_eq_true hx
  have HF : Hid (firstE [whenE true 6, whenE (decide (x ≤ last)) 9] = ascE count last x) := by
    show _ = _
    simp [firstE, whenE, ascE, hx]
    try (split <;> simp)
  clear hx
  have L0 := Lib.hid l0
  have L1 := Lib.hid hb.lt
  have HNE := Lib.hid hne
  clear h0 h1 hb l0 hne
  go_enter Tryd.func64, Tryd.ntmps64
  go_upto_region 1 with fail
  refine wp_region_held_drew (S := (fun w' : World => w'.cell? ⟨b0, 0, none⟩ = some (.int .i64 count) ∧ w'.cell? ⟨b1, 0, none⟩ = some (.int .i64 last))) (by kernel_rfl) ?_ ?_
  · exact ⟨H0.out, H1.out⟩
  intro hHeld
  refine wpAnyH_take (i := 0) (v := ?_) rfl (by kernel_rfl) (by kernel_rfl) (by kernel_rfl) (fun _ _ _ h => h) (Or.inl ⟨by rfl, ?_⟩) (by assumption) ?_
  rotate_left
  · intro w hSw; (try dsimp only at hSw); go_simp; (try (with_reducible rfl))
  try simp only [List.getElem_toArray, List.getElem_cons_succ, List.getElem_cons_zero, Act.put, List.setIfInBounds_toArray, List.set_cons_zero, List.set_cons_succ]
  refine wpAnyH_take (i := 1) (v := ?_) rfl (by kernel_rfl) (by kernel_rfl) (by kernel_rfl) (fun _ _ _ h => h) (Or.inl ⟨by rfl, ?_⟩) (by assumption) ?_
  rotate_left
  · intro w hSw; (try dsimp only at hSw); go_simp; (try (with_reducible rfl))
  try simp only [List.getElem_toArray, List.getElem_cons_succ, List.getElem_cons_zero, Act.put, List.setIfInBounds_toArray, List.set_cons_zero, List.set_cons_succ]
  refine wpAnyH_take (i := 2) (v := ?_) rfl (by kernel_rfl) (by kernel_rfl) (by kernel_rfl) (fun _ _ _ h => h) (Or.inl ⟨by rfl, ?_⟩) (by assumption) ?_
  rotate_left
  · intro w hSw; (try dsimp only at hSw); go_simp; (try (with_reducible rfl))
  try simp only [List.getElem_toArray, List.getElem_cons_succ, List.getElem_cons_zero, Act.put, List.setIfInBounds_toArray, List.set_cons_zero, List.set_cons_succ]
  refine wpAnyH_take (i := 3) (v := undef) rfl (by kernel_rfl) (by kernel_rfl) (by kernel_rfl) (fun _ _ _ h => h) (Or.inr ⟨by rfl, rfl⟩) (by assumption) ?_
  try simp only [List.getElem_toArray, List.getElem_cons_succ, List.getElem_cons_zero, Act.put, List.setIfInBounds_toArray, List.set_cons_zero, List.set_cons_succ]
  refine wpAnyH_take (i := 4) (v := undef) rfl (by kernel_rfl) (by kernel_rfl) (by kernel_rfl) (fun _ _ _ h => h) (Or.inr ⟨by rfl, rfl⟩) (by assumption) ?_
  try simp only [List.getElem_toArray, List.getElem_cons_succ, List.getElem_cons_zero, Act.put, List.setIfInBounds_toArray, List.set_cons_zero, List.set_cons_succ]
  refine wpAnyH_take (i := 5) (v := undef) rfl (by kernel_rfl) (by kernel_rfl) (by kernel_rfl) (fun _ _ _ h => h) (Or.inr ⟨by rfl, rfl⟩) (by assumption) ?_
  try simp only [List.getElem_toArray, List.getElem_cons_succ, List.getElem_cons_zero, Act.put, List.setIfInBounds_toArray, List.set_cons_zero, List.set_cons_succ]
  refine wpAnyH_take (i := 6) (v := ?_) rfl (by kernel_rfl) (by kernel_rfl) (by kernel_rfl) (fun _ _ _ h => h) (Or.inl ⟨by rfl, ?_⟩) (by assumption) ?_
  rotate_left
  · intro w hSw; (try dsimp only at hSw); go_simp; (try (with_reducible rfl))
  try simp only [List.getElem_toArray, List.getElem_cons_succ, List.getElem_cons_zero, Act.put, List.setIfInBounds_toArray, List.set_cons_zero, List.set_cons_succ]
  refine wpAnyH_take (i := 8) (v := ?_) rfl (by kernel_rfl) (by kernel_rfl) (by kernel_rfl) (fun _ _ _ h => h) (Or.inl ⟨by rfl, ?_⟩) (by assumption) ?_
  rotate_left
  · intro w hSw; (try dsimp only at hSw); go_simp; (try (with_reducible rfl))
  try simp only [List.getElem_toArray, List.getElem_cons_succ, List.getElem_cons_zero, Act.put, List.setIfInBounds_toArray, List.set_cons_zero, List.set_cons_succ]
  refine wpAnyH_take (i := 9) (v := ?_) rfl (by kernel_rfl) (by kernel_rfl) (by kernel_rfl) (fun _ _ _ h => h) (Or.inl ⟨by rfl, ?_⟩) (by assumption) ?_
  rotate_left
  · intro w hSw; (try dsimp only at hSw); go_simp; (try (with_reducible rfl))
  try simp only [List.getElem_toArray, List.getElem_cons_succ, List.getElem_cons_zero, Act.put, List.setIfInBounds_toArray, List.set_cons_zero, List.set_cons_succ]
  refine wpAnyH_take (i := 10) (v := ?_) rfl (by kernel_rfl) (by kernel_rfl) (by kernel_rfl) (fun _ _ _ h => h) (Or.inl ⟨by rfl, ?_⟩) (by assumption) ?_
  rotate_left
  · intro w hSw; (try dsimp only at hSw); go_simp; (try (with_reducible rfl))
  try simp only [List.getElem_toArray, List.getElem_cons_succ, List.getElem_cons_zero, Act.put, List.setIfInBounds_toArray, List.set_cons_zero, List.set_cons_succ]
  refine wpAnyH_ready (rs := [7]) (by kernel_rfl) (by simp) ?_
  refine AllReadyH.cons rfl (fun K hK => ?_) AllReadyH.nil
  go_simp
  go_at_call 25; refine (when_any _ _ _).mono ?_; rintro e w' ⟨rfl, rfl⟩
  go_wp2_with fail
  refine hK.out _ _ ?_ (fun hHeld => ?_)
  · clear hK K; first | exact ⟨H0.out, H1.out⟩ | exact ⟨HA0.out _, HA1.out _⟩
  clear hK K
  try simp only [List.getElem_toArray, List.getElem_cons_succ, List.getElem_cons_zero, Act.put, List.setIfInBounds_toArray, List.set_cons_zero, List.set_cons_succ]
  refine wpAnyH_ready (rs := [11]) (by kernel_rfl) (by simp) ?_
  refine AllReadyH.cons rfl (fun K hK => ?_) AllReadyH.nil
  go_simp
  go_at_call 25; refine (when_any _ _ _).mono ?_; rintro e w' ⟨rfl, rfl⟩
  go_wp2_with fail
  refine hK.out _ _ ?_ (fun hHeld => ?_)
  · clear hK K; first | exact ⟨H0.out, H1.out⟩ | exact ⟨HA0.out _, HA1.out _⟩
  clear hK K
  try simp only [List.getElem_toArray, List.getElem_cons_succ, List.getElem_cons_zero, Act.put, List.setIfInBounds_toArray, List.set_cons_zero, List.set_cons_succ]
  refine wpAnyH_ready (rs := [12]) (by kernel_rfl) (by simp) ?_
  refine AllReadyH.cons rfl (fun K hK => ?_) AllReadyH.nil
  go_simp
  refine hK.out _ _ ?_ (fun hHeld => ?_)
  · clear hK K; first | exact ⟨H0.out, H1.out⟩ | exact ⟨HA0.out _, HA1.out _⟩
  clear hK K
  try simp only [List.getElem_toArray, List.getElem_cons_succ, List.getElem_cons_zero, Act.put, List.setIfInBounds_toArray, List.set_cons_zero, List.set_cons_succ]
  refine wpAnyH_ready (rs := [13]) (by kernel_rfl) (by simp) ?_
  refine AllReadyH.cons rfl (fun K hK => ?_) AllReadyH.nil
  go_simp
  go_at_call 24; refine (first2 _ _ w.drew).mono ?_; rw [HF.out]; rintro e w' ⟨rfl, rfl⟩
  go_wp2_with fail
  refine hK.out _ _ ?_ (fun hHeld => ?_)
  · clear hK K; first | exact ⟨H0.out, H1.out⟩ | exact ⟨HA0.out _, HA1.out _⟩
  clear hK K
  try simp only [List.getElem_toArray, List.getElem_cons_succ, List.getElem_cons_zero, Act.put, List.setIfInBounds_toArray, List.set_cons_zero, List.set_cons_succ]
  refine wpAnyH_take (i := 14) (v := ?_) rfl (by kernel_rfl) (by kernel_rfl) (by kernel_rfl) (fun _ _ _ h => h) (Or.inl ⟨by rfl, ?_⟩) (by assumption) ?_
  rotate_left
  · intro w hSw; (try dsimp only at hSw); go_simp; (try (with_reducible rfl))
  try simp only [List.getElem_toArray, List.getElem_cons_succ, List.getElem_cons_zero, Act.put, List.setIfInBounds_toArray, List.set_cons_zero, List.set_cons_succ]
  refine wpAnyH_done (by kernel_rfl) ?_ _
  clear hHeld

  have f1 := ((HAB.out (.cells #[.int .i64 (whenE true 6), .int .i64 (whenE (decide (x ≤ last)) 9)] 27)).drew).frozen 0
  have f2 := (HAB.out (.cells #[.int .i64 (whenE true 6), .int .i64 (whenE (decide (x ≤ last)) 9)] 27)).frozen 0
  have HZ := HAB.out (.cells #[.int .i64 (whenE true 6), .int .i64 (whenE (decide (x ≤ last)) 9)] 27)
  have d1 := HA1.out (.cells #[.int .i64 (whenE true 6), .int .i64 (whenE (decide (x ≤ last)) 9)] 27)
  have d0 := HA0.out (.cells #[.int .i64 (whenE true 6), .int .i64 (whenE (decide (x ≤ last)) 9)] 27)
  have BB := Lib.hid (Below.alloc (Below.refl b1 w) (Nat.le_of_lt L1.out) (.cells #[.int .i64 (whenE true 6), .int .i64 (whenE (decide (x ≤ last)) 9)] 27))
  go_wp2
  go_ret
  have HZ2 : Bk ((w.alloc (.cells #[.int .i64 (whenE true 6), .int .i64 (whenE (decide (x ≤ last)) 9)] 27)).setCell ⟨b1, 0, none⟩ (.int .i64 x)) b1 3 #[.int .i64 x] := by simpa using HZ.set_ 0 (.int .i64 x)
  exact ⟨rfl, (World.cell?_setCell_far _ _ _ _ (by simp; have := HNE.out; omega)).trans d0, HZ2, (BB.out.setCell (Nat.le_refl _) _).drew⟩
set_option maxRecDepth 100000 in
set_option maxHeartbeats 4000000 in
theorem asc1_big (x count last : Int) (b0 b1 : Nat) (w : World) (h0 : w.cell? ⟨b0, 0, none⟩ = some (.int .i64 count)) (hb : Bk w b1 3 #[.int .i64 last]) (hne : b0 < b1) (hx : ¬ x < 0) (hc : count ≤ x) :
    Calls Tryd.prog 64 #[.int .i64 x, .pointer (some ⟨b0, 0, none⟩), .pointer (some ⟨b1, 0, none⟩)] w (AscRes b0 b1 count x (ascE count last x) w) := by
  have l0 := World.block_lt_of_cell? _ _ h0
  have h1 : w.cell? ⟨b1, 0, none⟩ = some (.int .i64 last) := by rw [hb.cell]; rfl
  have HA0 : Hid (∀ o, (w.drew.alloc o).cell? ⟨b0, 0, none⟩ = some (.int .i64 count)) := fun o => (World.cell?_alloc_lt w.drew _ _ l0).trans h0
  have HA1 : Hid (∀ o, (w.drew.alloc o).cell? ⟨b1, 0, none⟩ = some (.int .i64 last)) := fun o => (World.cell?_alloc_lt w.drew _ _ hb.lt).trans h1
  have H0 := Lib.hid h0
  have H1 := Lib.hid h1
  have HAB : Hid (∀ o, Bk (w.alloc o) b1 3 #[.int .i64 last]) := fun o => hb.alloc o
  have dx : decide (x < 0) = false := decide_eq_false hx
  have dc : decide (count ≤ x) = true := decide_eq_true hc
  have HF : Hid (firstE [whenE true 6, whenE (decide (x ≤ last)) 9] = ascE count last x) := by
    show _ = _
    simp [firstE, whenE, ascE, hc]
    try (split <;> simp)
  clear hx hc
  have L0 := Lib.hid l0
  have L1 := Lib.hid hb.lt
  have HNE := Lib.hid hne
  clear h0 h1 hb l0 hne
  go_enter Tryd.func64, Tryd.ntmps64
  go_upto_region 1 with fail
  refine wp_region_held_drew (S := (fun w' : World => w'.cell? ⟨b0, 0, none⟩ = some (.int .i64 count) ∧ w'.cell? ⟨b1, 0, none⟩ = some (.int .i64 last))) (by kernel_rfl) ?_ ?_
  · exact ⟨H0.out, H1.out⟩
  intro hHeld
  refine wpAnyH_take (i := 0) (v := ?_) rfl (by kernel_rfl) (by kernel_rfl) (by kernel_rfl) (fun _ _ _ h => h) (Or.inl ⟨by rfl, ?_⟩) (by assumption) ?_
  rotate_left
  · intro w hSw; (try dsimp only at hSw); go_simp; (try (with_reducible rfl))
  try simp only [List.getElem_toArray, List.getElem_cons_succ, List.getElem_cons_zero, Act.put, List.setIfInBounds_toArray, List.set_cons_zero, List.set_cons_succ]
  refine wpAnyH_take (i := 1) (v := ?_) rfl (by kernel_rfl) (by kernel_rfl) (by kernel_rfl) (fun _ _ _ h => h) (Or.inl ⟨by rfl, ?_⟩) (by assumption) ?_
  rotate_left
  · intro w hSw; (try dsimp only at hSw); go_simp; (try (with_reducible rfl))
  try simp only [List.getElem_toArray, List.getElem_cons_succ, List.getElem_cons_zero, Act.put, List.setIfInBounds_toArray, List.set_cons_zero, List.set_cons_succ]
  refine wpAnyH_take (i := 2) (v := ?_) rfl (by kernel_rfl) (by kernel_rfl) (by kernel_rfl) (fun _ _ _ h => h) (Or.inl ⟨by rfl, ?_⟩) (by assumption) ?_
  rotate_left
  · intro w hSw; (try dsimp only at hSw); go_simp; (try (with_reducible rfl))
  try simp only [List.getElem_toArray, List.getElem_cons_succ, List.getElem_cons_zero, Act.put, List.setIfInBounds_toArray, List.set_cons_zero, List.set_cons_succ]
  refine wpAnyH_take (i := 3) (v := ?_) rfl (by kernel_rfl) (by kernel_rfl) (by kernel_rfl) (fun _ _ _ h => h) (Or.inl ⟨by rfl, ?_⟩) (by assumption) ?_
  rotate_left
  · intro w hSw; (try dsimp only at hSw); go_simp; (try (with_reducible rfl))
  try simp only [List.getElem_toArray, List.getElem_cons_succ, List.getElem_cons_zero, Act.put, List.setIfInBounds_toArray, List.set_cons_zero, List.set_cons_succ]
  refine wpAnyH_take (i := 4) (v := ?_) rfl (by kernel_rfl) (by kernel_rfl) (by kernel_rfl) (fun _ _ _ h => h) (Or.inl ⟨by rfl, ?_⟩) (by assumption) ?_
  rotate_left
  · intro w hSw; (try dsimp only at hSw); go_simp; (try (with_reducible rfl))
  try simp only [List.getElem_toArray, List.getElem_cons_succ, List.getElem_cons_zero, Act.put, List.setIfInBounds_toArray, List.set_cons_zero, List.set_cons_succ]
  refine wpAnyH_take (i := 5) (v := ?_) rfl (by kernel_rfl) (by kernel_rfl) (by kernel_rfl) (fun _ _ _ h => h) (Or.inl ⟨by rfl, ?_⟩) (by assumption) ?_
  rotate_left
  · intro w hSw; (try dsimp only at hSw); go_simp; (try (with_reducible rfl))
  try simp only [List.getElem_toArray, List.getElem_cons_succ, List.getElem_cons_zero, Act.put, List.setIfInBounds_toArray, List.set_cons_zero, List.set_cons_succ]
  refine wpAnyH_take (i := 6) (v := ?_) rfl (by kernel_rfl) (by kernel_rfl) (by kernel_rfl) (fun _ _ _ h => h) (Or.inl ⟨by rfl, ?_⟩) (by assumption) ?_
  rotate_left
  · intro w hSw; (try dsimp only at hSw); go_simp; (try (with_reducible rfl))
  try simp only [List.getElem_toArray, List.getElem_cons_succ, List.getElem_cons_zero, Act.put, List.setIfInBounds_toArray, List.set_cons_zero, List.set_cons_succ]
  refine wpAnyH_take (i := 8) (v := ?_) rfl (by kernel_rfl) (by kernel_rfl) (by kernel_rfl) (fun _ _ _ h => h) (Or.inl ⟨by rfl, ?_⟩) (by assumption) ?_
  rotate_left
  · intro w hSw; (try dsimp only at hSw); go_simp; (try (with_reducible rfl))
  try simp only [List.getElem_toArray, List.getElem_cons_succ, List.getElem_cons_zero, Act.put, List.setIfInBounds_toArray, List.set_cons_zero, List.set_cons_succ]
  refine wpAnyH_take (i := 9) (v := ?_) rfl (by kernel_rfl) (by kernel_rfl) (by kernel_rfl) (fun _ _ _ h => h) (Or.inl ⟨by rfl, ?_⟩) (by assumption) ?_
  rotate_left
  · intro w hSw; (try dsimp only at hSw); go_simp; (try (with_reducible rfl))
  try simp only [List.getElem_toArray, List.getElem_cons_succ, List.getElem_cons_zero, Act.put, List.setIfInBounds_toArray, List.set_cons_zero, List.set_cons_succ]
  refine wpAnyH_take (i := 10) (v := ?_) rfl (by kernel_rfl) (by kernel_rfl) (by kernel_rfl) (fun _ _ _ h => h) (Or.inl ⟨by rfl, ?_⟩) (by assumption) ?_
  rotate_left
  · intro w hSw; (try dsimp only at hSw); go_simp; (try (with_reducible rfl))
  try simp only [List.getElem_toArray, List.getElem_cons_succ, List.getElem_cons_zero, Act.put, List.setIfInBounds_toArray, List.set_cons_zero, List.set_cons_succ]
  refine wpAnyH_ready (rs := [7]) (by kernel_rfl) (by simp) ?_
  refine AllReadyH.cons rfl (fun K hK => ?_) AllReadyH.nil
  go_simp
  go_at_call 25; refine (when_any _ _ _).mono ?_; rintro e w' ⟨rfl, rfl⟩
  go_wp2_with fail
  refine hK.out _ _ ?_ (fun hHeld => ?_)
  · clear hK K; first | exact ⟨H0.out, H1.out⟩ | exact ⟨HA0.out _, HA1.out _⟩
  clear hK K
  try simp only [List.getElem_toArray, List.getElem_cons_succ, List.getElem_cons_zero, Act.put, List.setIfInBounds_toArray, List.set_cons_zero, List.set_cons_succ]
  refine wpAnyH_ready (rs := [11]) (by kernel_rfl) (by simp) ?_
  refine AllReadyH.cons rfl (fun K hK => ?_) AllReadyH.nil
  go_simp
  go_at_call 25; refine (when_any _ _ _).mono ?_; rintro e w' ⟨rfl, rfl⟩
  go_wp2_with fail
  refine hK.out _ _ ?_ (fun hHeld => ?_)
  · clear hK K; first | exact ⟨H0.out, H1.out⟩ | exact ⟨HA0.out _, HA1.out _⟩
  clear hK K
  try simp only [List.getElem_toArray, List.getElem_cons_succ, List.getElem_cons_zero, Act.put, List.setIfInBounds_toArray, List.set_cons_zero, List.set_cons_succ]
  refine wpAnyH_ready (rs := [12]) (by kernel_rfl) (by simp) ?_
  refine AllReadyH.cons rfl (fun K hK => ?_) AllReadyH.nil
  go_simp
  refine hK.out _ _ ?_ (fun hHeld => ?_)
  · clear hK K; first | exact ⟨H0.out, H1.out⟩ | exact ⟨HA0.out _, HA1.out _⟩
  clear hK K
  try simp only [List.getElem_toArray, List.getElem_cons_succ, List.getElem_cons_zero, Act.put, List.setIfInBounds_toArray, List.set_cons_zero, List.set_cons_succ]
  refine wpAnyH_ready (rs := [13]) (by kernel_rfl) (by simp) ?_
  refine AllReadyH.cons rfl (fun K hK => ?_) AllReadyH.nil
  go_simp
  go_at_call 24; refine (first2 _ _ w.drew).mono ?_; rw [HF.out]; rintro e w' ⟨rfl, rfl⟩
  go_wp2_with fail
  refine hK.out _ _ ?_ (fun hHeld => ?_)
  · clear hK K; first | exact ⟨H0.out, H1.out⟩ | exact ⟨HA0.out _, HA1.out _⟩
  clear hK K
  try simp only [List.getElem_toArray, List.getElem_cons_succ, List.getElem_cons_zero, Act.put, List.setIfInBounds_toArray, List.set_cons_zero, List.set_cons_succ]
  refine wpAnyH_take (i := 14) (v := ?_) rfl (by kernel_rfl) (by kernel_rfl) (by kernel_rfl) (fun _ _ _ h => h) (Or.inl ⟨by rfl, ?_⟩) (by assumption) ?_
  rotate_left
  · intro w hSw; (try dsimp only at hSw); go_simp; (try (with_reducible rfl))
  try simp only [List.getElem_toArray, List.getElem_cons_succ, List.getElem_cons_zero, Act.put, List.setIfInBounds_toArray, List.set_cons_zero, List.set_cons_succ]
  refine wpAnyH_done (by kernel_rfl) ?_ _
  clear hHeld

  have f1 := ((HAB.out (.cells #[.int .i64 (whenE true 6), .int .i64 (whenE (decide (x ≤ last)) 9)] 27)).drew).frozen 0
  have f2 := (HAB.out (.cells #[.int .i64 (whenE true 6), .int .i64 (whenE (decide (x ≤ last)) 9)] 27)).frozen 0
  have HZ := HAB.out (.cells #[.int .i64 (whenE true 6), .int .i64 (whenE (decide (x ≤ last)) 9)] 27)
  have d1 := HA1.out (.cells #[.int .i64 (whenE true 6), .int .i64 (whenE (decide (x ≤ last)) 9)] 27)
  have d0 := HA0.out (.cells #[.int .i64 (whenE true 6), .int .i64 (whenE (decide (x ≤ last)) 9)] 27)
  have BB := Lib.hid (Below.alloc (Below.refl b1 w) (Nat.le_of_lt L1.out) (.cells #[.int .i64 (whenE true 6), .int .i64 (whenE (decide (x ≤ last)) 9)] 27))
  go_wp2
  go_ret
  have HZ2 : Bk ((w.alloc (.cells #[.int .i64 (whenE true 6), .int .i64 (whenE (decide (x ≤ last)) 9)] 27)).setCell ⟨b1, 0, none⟩ (.int .i64 x)) b1 3 #[.int .i64 x] := by simpa using HZ.set_ 0 (.int .i64 x)
  exact ⟨rfl, (World.cell?_setCell_far _ _ _ _ (by simp; have := HNE.out; omega)).trans d0, HZ2, (BB.out.setCell (Nat.le_refl _) _).drew⟩
set_option maxRecDepth 100000 in
set_option maxHeartbeats 4000000 in
theorem asc1_in (x count last : Int) (b0 b1 : Nat) (w : World) (h0 : w.cell? ⟨b0, 0, none⟩ = some (.int .i64 count)) (hb : Bk w b1 3 #[.int .i64 last]) (hne : b0 < b1) (hx : ¬ x < 0) (hc : ¬ count ≤ x) :
    Calls Tryd.prog 64 #[.int .i64 x, .pointer (some ⟨b0, 0, none⟩), .pointer (some ⟨b1, 0, none⟩)] w (AscRes b0 b1 count x (ascE count last x) w) := by
  have l0 := World.block_lt_of_cell? _ _ h0
  have h1 : w.cell? ⟨b1, 0, none⟩ = some (.int .i64 last) := by rw [hb.cell]; rfl
  have HA0 : Hid (∀ o, (w.drew.alloc o).cell? ⟨b0, 0, none⟩ = some (.int .i64 count)) := fun o => (World.cell?_alloc_lt w.drew _ _ l0).trans h0
  have HA1 : Hid (∀ o, (w.drew.alloc o).cell? ⟨b1, 0, none⟩ = some (.int .i64 last)) := fun o => (World.cell?_alloc_lt w.drew _ _ hb.lt).trans h1
  have H0 := Lib.hid h0
  have H1 := Lib.hid h1
  have HAB : Hid (∀ o, Bk (w.alloc o) b1 3 #[.int .i64 last]) := fun o => hb.alloc o
  have dx : decide (x < 0) = false := decide_eq_false hx
  have dc : decide (count ≤ x) = false := decide_eq_false hc
  have HF : Hid (firstE [whenE false 6, whenE (decide (x ≤ last)) 9] = ascE count last x) := by
    show _ = _
    simp [firstE, whenE, ascE, hx, hc]
    try (split <;> simp)
  clear hx hc
  have L0 := Lib.hid l0
  have L1 := Lib.hid hb.lt
  have HNE := Lib.hid hne
  clear h0 h1 hb l0 hne
  go_enter Tryd.func64, Tryd.ntmps64
  go_upto_region 1 with fail
  refine wp_region_held_drew (S := (fun w' : World => w'.cell? ⟨b0, 0, none⟩ = some (.int .i64 count) ∧ w'.cell? ⟨b1, 0, none⟩ = some (.int .i64 last))) (by kernel_rfl) ?_ ?_
  · exact ⟨H0.out, H1.out⟩
  intro hHeld
  refine wpAnyH_take (i := 0) (v := ?_) rfl (by kernel_rfl) (by kernel_rfl) (by kernel_rfl) (fun _ _ _ h => h) (Or.inl ⟨by rfl, ?_⟩) (by assumption) ?_
  rotate_left
  · intro w hSw; (try dsimp only at hSw); go_simp; (try (with_reducible rfl))
  try simp only [List.getElem_toArray, List.getElem_cons_succ, List.getElem_cons_zero, Act.put, List.setIfInBounds_toArray, List.set_cons_zero, List.set_cons_succ]
  refine wpAnyH_take (i := 1) (v := ?_) rfl (by kernel_rfl) (by kernel_rfl) (by kernel_rfl) (fun _ _ _ h => h) (Or.inl ⟨by rfl, ?_⟩) (by assumption) ?_
  rotate_left
  · intro w hSw; (try dsimp only at hSw); go_simp; (try (with_reducible rfl))
  try simp only [List.getElem_toArray, List.getElem_cons_succ, List.getElem_cons_zero, Act.put, List.setIfInBounds_toArray, List.set_cons_zero, List.set_cons_succ]
  refine wpAnyH_take (i := 2) (v := ?_) rfl (by kernel_rfl) (by kernel_rfl) (by kernel_rfl) (fun _ _ _ h => h) (Or.inl ⟨by rfl, ?_⟩) (by assumption) ?_
  rotate_left
  · intro w hSw; (try dsimp only at hSw); go_simp; (try (with_reducible rfl))
  try simp only [List.getElem_toArray, List.getElem_cons_succ, List.getElem_cons_zero, Act.put, List.setIfInBounds_toArray, List.set_cons_zero, List.set_cons_succ]
  refine wpAnyH_take (i := 3) (v := ?_) rfl (by kernel_rfl) (by kernel_rfl) (by kernel_rfl) (fun _ _ _ h => h) (Or.inl ⟨by rfl, ?_⟩) (by assumption) ?_
  rotate_left
  · intro w hSw; (try dsimp only at hSw); go_simp; (try (with_reducible rfl))
  try simp only [List.getElem_toArray, List.getElem_cons_succ, List.getElem_cons_zero, Act.put, List.setIfInBounds_toArray, List.set_cons_zero, List.set_cons_succ]
  refine wpAnyH_take (i := 4) (v := ?_) rfl (by kernel_rfl) (by kernel_rfl) (by kernel_rfl) (fun _ _ _ h => h) (Or.inl ⟨by rfl, ?_⟩) (by assumption) ?_
  rotate_left
  · intro w hSw; (try dsimp only at hSw); go_simp; (try (with_reducible rfl))
  try simp only [List.getElem_toArray, List.getElem_cons_succ, List.getElem_cons_zero, Act.put, List.setIfInBounds_toArray, List.set_cons_zero, List.set_cons_succ]
  refine wpAnyH_take (i := 5) (v := ?_) rfl (by kernel_rfl) (by kernel_rfl) (by kernel_rfl) (fun _ _ _ h => h) (Or.inl ⟨by rfl, ?_⟩) (by assumption) ?_
  rotate_left
  · intro w hSw; (try dsimp only at hSw); go_simp; (try (with_reducible rfl))
  try simp only [List.getElem_toArray, List.getElem_cons_succ, List.getElem_cons_zero, Act.put, List.setIfInBounds_toArray, List.set_cons_zero, List.set_cons_succ]
  refine wpAnyH_take (i := 6) (v := ?_) rfl (by kernel_rfl) (by kernel_rfl) (by kernel_rfl) (fun _ _ _ h => h) (Or.inl ⟨by rfl, ?_⟩) (by assumption) ?_
  rotate_left
  · intro w hSw; (try dsimp only at hSw); go_simp; (try (with_reducible rfl))
  try simp only [List.getElem_toArray, List.getElem_cons_succ, List.getElem_cons_zero, Act.put, List.setIfInBounds_toArray, List.set_cons_zero, List.set_cons_succ]
  refine wpAnyH_take (i := 8) (v := ?_) rfl (by kernel_rfl) (by kernel_rfl) (by kernel_rfl) (fun _ _ _ h => h) (Or.inl ⟨by rfl, ?_⟩) (by assumption) ?_
  rotate_left
  · intro w hSw; (try dsimp only at hSw); go_simp; (try (with_reducible rfl))
  try simp only [List.getElem_toArray, List.getElem_cons_succ, List.getElem_cons_zero, Act.put, List.setIfInBounds_toArray, List.set_cons_zero, List.set_cons_succ]
  refine wpAnyH_take (i := 9) (v := ?_) rfl (by kernel_rfl) (by kernel_rfl) (by kernel_rfl) (fun _ _ _ h => h) (Or.inl ⟨by rfl, ?_⟩) (by assumption) ?_
  rotate_left
  · intro w hSw; (try dsimp only at hSw); go_simp; (try (with_reducible rfl))
  try simp only [List.getElem_toArray, List.getElem_cons_succ, List.getElem_cons_zero, Act.put, List.setIfInBounds_toArray, List.set_cons_zero, List.set_cons_succ]
  refine wpAnyH_take (i := 10) (v := ?_) rfl (by kernel_rfl) (by kernel_rfl) (by kernel_rfl) (fun _ _ _ h => h) (Or.inl ⟨by rfl, ?_⟩) (by assumption) ?_
  rotate_left
  · intro w hSw; (try dsimp only at hSw); go_simp; (try (with_reducible rfl))
  try simp only [List.getElem_toArray, List.getElem_cons_succ, List.getElem_cons_zero, Act.put, List.setIfInBounds_toArray, List.set_cons_zero, List.set_cons_succ]
  refine wpAnyH_ready (rs := [7]) (by kernel_rfl) (by simp) ?_
  refine AllReadyH.cons rfl (fun K hK => ?_) AllReadyH.nil
  go_simp
  go_at_call 25; refine (when_any _ _ _).mono ?_; rintro e w' ⟨rfl, rfl⟩
  go_wp2_with fail
  refine hK.out _ _ ?_ (fun hHeld => ?_)
  · clear hK K; first | exact ⟨H0.out, H1.out⟩ | exact ⟨HA0.out _, HA1.out _⟩
  clear hK K
  try simp only [List.getElem_toArray, List.getElem_cons_succ, List.getElem_cons_zero, Act.put, List.setIfInBounds_toArray, List.set_cons_zero, List.set_cons_succ]
  refine wpAnyH_ready (rs := [11]) (by kernel_rfl) (by simp) ?_
  refine AllReadyH.cons rfl (fun K hK => ?_) AllReadyH.nil
  go_simp
  go_at_call 25; refine (when_any _ _ _).mono ?_; rintro e w' ⟨rfl, rfl⟩
  go_wp2_with fail
  refine hK.out _ _ ?_ (fun hHeld => ?_)
  · clear hK K; first | exact ⟨H0.out, H1.out⟩ | exact ⟨HA0.out _, HA1.out _⟩
  clear hK K
  try simp only [List.getElem_toArray, List.getElem_cons_succ, List.getElem_cons_zero, Act.put, List.setIfInBounds_toArray, List.set_cons_zero, List.set_cons_succ]
  refine wpAnyH_ready (rs := [12]) (by kernel_rfl) (by simp) ?_
  refine AllReadyH.cons rfl (fun K hK => ?_) AllReadyH.nil
  go_simp
  refine hK.out _ _ ?_ (fun hHeld => ?_)
  · clear hK K; first | exact ⟨H0.out, H1.out⟩ | exact ⟨HA0.out _, HA1.out _⟩
  clear hK K
  try simp only [List.getElem_toArray, List.getElem_cons_succ, List.getElem_cons_zero, Act.put, List.setIfInBounds_toArray, List.set_cons_zero, List.set_cons_succ]
  refine wpAnyH_ready (rs := [13]) (by kernel_rfl) (by simp) ?_
  refine AllReadyH.cons rfl (fun K hK => ?_) AllReadyH.nil
  go_simp
  go_at_call 24; refine (first2 _ _ w.drew).mono ?_; rw [HF.out]; rintro e w' ⟨rfl, rfl⟩
  go_wp2_with fail
  refine hK.out _ _ ?_ (fun hHeld => ?_)
  · clear hK K; first | exact ⟨H0.out, H1.out⟩ | exact ⟨HA0.out _, HA1.out _⟩
  clear hK K
  try simp only [List.getElem_toArray, List.getElem_cons_succ, List.getElem_cons_zero, Act.put, List.setIfInBounds_toArray, List.set_cons_zero, List.set_cons_succ]
  refine wpAnyH_take (i := 14) (v := ?_) rfl (by kernel_rfl) (by kernel_rfl) (by kernel_rfl) (fun _ _ _ h => h) (Or.inl ⟨by rfl, ?_⟩) (by assumption) ?_
  rotate_left
  · intro w hSw; (try dsimp only at hSw); go_simp; (try (with_reducible rfl))
  try simp only [List.getElem_toArray, List.getElem_cons_succ, List.getElem_cons_zero, Act.put, List.setIfInBounds_toArray, List.set_cons_zero, List.set_cons_succ]
  refine wpAnyH_done (by kernel_rfl) ?_ _
  clear hHeld

  have f1 := ((HAB.out (.cells #[.int .i64 (whenE false 6), .int .i64 (whenE (decide (x ≤ last)) 9)] 27)).drew).frozen 0
  have f2 := (HAB.out (.cells #[.int .i64 (whenE false 6), .int .i64 (whenE (decide (x ≤ last)) 9)] 27)).frozen 0
  have HZ := HAB.out (.cells #[.int .i64 (whenE false 6), .int .i64 (whenE (decide (x ≤ last)) 9)] 27)
  have d1 := HA1.out (.cells #[.int .i64 (whenE false 6), .int .i64 (whenE (decide (x ≤ last)) 9)] 27)
  have d0 := HA0.out (.cells #[.int .i64 (whenE false 6), .int .i64 (whenE (decide (x ≤ last)) 9)] 27)
  have BB := Lib.hid (Below.alloc (Below.refl b1 w) (Nat.le_of_lt L1.out) (.cells #[.int .i64 (whenE false 6), .int .i64 (whenE (decide (x ≤ last)) 9)] 27))
  go_wp2
  go_ret
  have HZ2 : Bk ((w.alloc (.cells #[.int .i64 (whenE false 6), .int .i64 (whenE (decide (x ≤ last)) 9)] 27)).setCell ⟨b1, 0, none⟩ (.int .i64 x)) b1 3 #[.int .i64 x] := by simpa using HZ.set_ 0 (.int .i64 x)
  exact ⟨rfl, (World.cell?_setCell_far _ _ _ _ (by simp; have := HNE.out; omega)).trans d0, HZ2, (BB.out.setCell (Nat.le_refl _) _).drew⟩
theorem asc1_any (x count last : Int) (b0 b1 : Nat) (w : World) (h0 : w.cell? ⟨b0, 0, none⟩ = some (.int .i64 count)) (hb : Bk w b1 3 #[.int .i64 last]) (hne : b0 < b1) :
    Calls Tryd.prog 64 #[.int .i64 x, .pointer (some ⟨b0, 0, none⟩), .pointer (some ⟨b1, 0, none⟩)] w (AscRes b0 b1 count x (ascE count last x) w) := by
  by_cases hx : x < 0
  · exact asc1_neg x count last b0 b1 w h0 hb hne hx
  · by_cases hc : count ≤ x
    · exact asc1_big x count last b0 b1 w h0 hb hne hx hc
    · exact asc1_in x count last b0 b1 w h0 hb hne hx hc
end Go.Proofs.YtjjflbnopphciabDoor

namespace Go.Proofs.YtjjflbnopphciabDoor
open Go.RowKit
open Go.Shelf
attribute [local go_sem] Oper.semAt_some

theorem cut3_run (a : Option Addr) (n c lo hi m d : Nat) (l h : Int) (hl : l = lo) (hh : h = hi) (h1 : lo ≤ hi) (h2 : hi ≤ c) (hm : hi - lo = m) (W : World) :
    (Instr.slice 31 (.slice a n c) (some (.int .i64 l)) (some (.int .i64 h)) (some (.int .i64 h))).run Tryd.prog W = .ok (.slice (cutA a lo hi) m m) W := by
  have := run_slice_lhm (P := Tryd.prog) (w := W) 31 a n c intsUnder' .i64 .i64 .i64 l h h (by omega) (by omega) (by omega) (by omega)
  rw [this, intElem, sizeOfInt, ← hm, hl, hh]
  rfl

structure Kp2 (B C : Nat) (W W' : World) : Prop where
  b : W'.heap[B]? = W.heap[B]?
  c : W'.heap[C]? = W.heap[C]?
theorem Kp2.refl (B C : Nat) (W : World) : Kp2 B C W W := ⟨rfl, rfl⟩
theorem Kp2.trans {B C : Nat} {X Y Z : World} (h : Kp2 B C X Y) (k : Kp2 B C Y Z) : Kp2 B C X Z := ⟨k.b.trans h.b, k.c.trans h.c⟩
theorem Kp2.cellB {B C : Nat} {W W' : World} (h : Kp2 B C W W') (o : Nat) : W'.cell? ⟨B, o, none⟩ = W.cell? ⟨B, o, none⟩ := by simp [World.cell?, h.b]
theorem Kp2.cellC {B C : Nat} {W W' : World} (h : Kp2 B C W W') (o : Nat) : W'.cell? ⟨C, o, none⟩ = W.cell? ⟨C, o, none⟩ := by simp [World.cell?, h.c]
theorem Kp2.putObj {B C : Nat} (W : World) (l : Nat) (o : Obj) (hB : l ≠ B) (hC : l ≠ C) : Kp2 B C W (W.putObj l o) := ⟨World.putObj_heap_other (by omega), World.putObj_heap_other (by omega)⟩
theorem Kp2.setCell {B C : Nat} (W : World) (a : Addr) (v : Value) (hB : B ≠ a.block) (hC : C ≠ a.block) : Kp2 B C W (W.setCell a v) := ⟨Below.heap_setCell _ _ _ _ hB, Below.heap_setCell _ _ _ _ hC⟩
theorem Kp2.alloc {B C : Nat} (W : World) (o : Obj) (hB : B < W.heap.size) (hC : C < W.heap.size) : Kp2 B C W (W.alloc o) := ⟨Below.heap_alloc _ _ _ hB, Below.heap_alloc _ _ _ hC⟩
theorem Kp2.drew {B C : Nat} (W : World) : Kp2 B C W W.drew := ⟨rfl, rfl⟩

/-- How long part x is. -/
def partN (n x : Nat) : Nat := min 8 (n - x * 8)
/-- Part x of a signal, as a slice. -/
def partV (A : Option Addr) (n x : Nat) : Value := .slice (cutA A (x * 8) (x * 8 + partN n x)) (partN n x) (partN n x)
theorem range_takeT {N k : Nat} (h : k < N) : (List.range N).take (k + 1) = (List.range N).take k ++ [k] := by
  rw [List.take_range, List.take_range, Nat.min_eq_left (by omega), Nat.min_eq_left (by omega), List.range_succ]

end Go.Proofs.YtjjflbnopphciabDoor

namespace Go.Proofs.YtjjflbnopphciabDoor
open Go.RowKit
open Go.Shelf
attribute [local go_sem] Oper.semAt_some

/-- A part of a signal by its index. -/
abbrev Part (N : Nat) := { i : Nat // i < N }

/-- The law for a loop whose one variable is no box: what the frame is, by the slots. -/
theorem wpIn_rangeFunc_one {F : Fence} {n : Nat} {P : Program} {α : Type} {g : Operand} {p : Tmp} {assign body : Code} {Q : Exit → Act → World → Prop} {a : Act} {w : World}
    (hro : F.round = none) (h1 : 1 ≤ n) {gf : Nat} {lb : Array Value} (hg : a.eval g = .func (.func gf) #[] lb) (hFg : F.fn gf) (eg : ∀ args w, (callFunc gf args).run P w = .ok (.enter gf args) w)
    (enc : α → Value) {Kp : World → World → Prop} {S Sp : List α → Prop} {N : Nat} {w0 : World} (hseq : SeqStopsK F (n - 1) P gf lb (fun x => #[enc x]) Kp S Sp N w0)
    (hKt : ∀ {A B C : World}, Kp A B → Kp B C → Kp A C) (hKb : ∀ (W : World) (l : Nat) (o o' : Obj), w.heap.size ≤ l → W.heap[l]? = some o → o.isCells = false → o.isWalk = false → Kp W (W.putObj l o')) (hb0 : Below w0.heap.size w0 w)
    (q : Tmp)
    (I : List α → World → Prop) (Ix : Code → List α → World → Prop) (hI : OwnFrom w.heap.size I) (hIx : ∀ c, OwnFrom w.heap.size (Ix c)) (h0 : I [] w)
    (hassign : ∀ (l : Nat) (x : α) (W : World) (K : Act → World → Prop), K { tmps := (a.tmps.setIfInBounds p (enc x)).setIfInBounds q (enc x), defers := [] } W →
      assign.wpIn (F.inRound l) (n - 1 - 1) P (Exit.then K (fun _ _ _ => False)) { tmps := a.tmps.setIfInBounds p (enc x), defers := [] } W)
    (hbody : ∀ (l : Nat) (pre : List α) (x : α) (W : World), I pre W → pre.length < N → body.wpIn (F.inRound l) (n - 1 - 1) P (ownPostG w.heap.size Kp I Ix (pre ++ [x]) W) { tmps := (a.tmps.setIfInBounds p (enc x)).setIfInBounds q (enc x), defers := [] } W)
    (hdone : ∀ (D : Nat) (xs : List α) (W : World), w.heap.size ≤ D → S xs → I xs W → W.heap[D]? = some (.deferred (some [])) → Q .normal { a with defers := { target := .collected D, args := #[] } :: a.defers } W)
    (hstop : ∀ (D : Nat) (c : Code) (pre : List α) (W : World), w.heap.size ≤ D → Sp pre → Ix c pre W → W.heap[D]? = some (.deferred (some [])) → c.wpIn F n P Q { a with defers := { target := .collected D, args := #[] } :: a.defers } W) :
    (Code.rangeFunc g #[p] assign body).wpIn F n P Q a w :=
  wpIn_rangeFunc_ownG hro h1 hg hFg eg hseq hKt hKb hb0 (fun _ => rfl) I Ix hI hIx h0 (fun x => { tmps := (a.tmps.setIfInBounds p (enc x)).setIfInBounds q (enc x), defers := [] })
    (fun l x W K hK => by simpa using hassign l x W K hK) hbody hdone hstop

/-- copy into a block that is known whole, inside a fence. -/
theorem wpListIn_copy_blk {F : Fence} {n : Nat} {P : Program} (w : World) {ops : Array Oper} {rest : List Oper} {o : Oper} {a : Act} {Q : Exit → Act → World → Prop} (hgd : o.guard = none) (d s : Operand) (dT sT : TypeId)
    (ho : o.op = .call { callee := .builtin .copy, args := #[d, s], argTypes := #[dT, sT] }) (elem : TypeId) (hu : P.underlying dT = some (.slice elem)) (hsz : (P.info? elem).map (·.size) = some 1)
    (g off dLen dCap : Nat) (sp : Option Addr) (sLen sCap : Nat) (hd : a.eval d = .slice (some ⟨g, off, none⟩) dLen dCap) (hs : a.eval s = .slice sp sLen sCap)
    (cur : Array Value) (t : TypeId) (hg : w.heap[g]? = some (.cells cur t (0, 0))) (cs : List Value) (hn : cs.length = Nat.min sLen dLen)
    (hsrc : ∃ ad, sp = some ad ∧ ∀ j v, cs[j]? = some v → w.cell? (ad.add j) = some v) (hfit : off + cs.length ≤ cur.size) (h1 : ∀ v ∈ cs, v.oneCell' = true)
    (h : ∀ w', Hid (w'.heap[g]? = some (.cells (splice cur.toList off cs).toArray t (0, 0))) → w.grownBy w' (some g) → wpListIn F n P ops Q rest (a.put o.dst (goInt cs.length)) w') :
    wpListIn F n P ops Q (o :: rest) a w := by
  obtain ⟨ad, rfl, hsrc⟩ := hsrc
  refine wpListIn_plain hgd fun K hK => ?_
  have hrun := run_copy_row (P := P) w dT sT o.type elem g off dLen dCap ad sLen sCap cur t cs hu hsz hg hn hsrc hfit h1
  unfold Oper.wpIn
  refine ⟨?_, ?_⟩
  · simp [Oper.about, ho, resolve, Target.leads, Sem.run_pure]
  · rw [Oper.semAt_plain F _ _ (by rw [ho]; intro c hc'; cases hc')]
    simp [execOp, ho, resolve, invoke, builtin, hd, hs, hrun, Result.andThen]
    refine hK _ _ (h _ ?_ ?_)
    · exact (show _ = _ by simpa [splice] using setRow_heap w g _ _ t _ hg)
    · exact ⟨rfl, rfl, rfl, by simp, fun k _ hk => setRow_other w g k _ (fun e => hk (by rw [e]))⟩

theorem RdI.cut3 {w : World} {a : Option Addr} {n : Nat} {xs : List Int} (h : RdI w a n xs) (lo m : Nat) (h1 : lo + m ≤ n) : RdI w (cutA a lo (lo + m)) m ((xs.drop lo).take m) := by
  have hl := h.1
  refine ⟨by rw [List.length_take, List.length_drop]; omega, fun hm => ?_⟩
  obtain ⟨ad, rfl, hb, hc⟩ := h.2 (by omega)
  refine ⟨ad.add (lo * 1), ?_, by rw [addBlock]; exact hb, fun j hj => ?_⟩
  · unfold cutA; rw [if_neg (by omega)]; rfl
  · rw [add_add', hc (lo * 1 + j) (by omega)]
    congr 2
    simp only [List.getD_eq_getElem?_getD, List.getElem?_take, List.getElem?_drop]
    rw [if_pos hj, Nat.mul_one]

/-- The cells of part j. -/
def partC (xs : List Int) (j m : Nat) : List Value := (List.range m).map fun k => .int .i64 (xs.getD (j * 8 + k) 0)
theorem partC_length (xs : List Int) (j m : Nat) : (partC xs j m).length = m := by simp [partC]
theorem partC_src {w : World} {A : Option Addr} {n : Nat} {xs : List Int} (h : RdI w A n xs) (j m : Nat) (hm : 0 < m) (h1 : j * 8 + m ≤ n) :
    ∃ ad, cutA A (j * 8) (j * 8 + m) = some ad ∧ ∀ i v, (partC xs j m)[i]? = some v → w.cell? (ad.add i) = some v := by
  have h2 := h.cut3 (j * 8) m h1
  obtain ⟨ad, e, _, hc⟩ := h2.2 hm
  refine ⟨ad, e, fun i v hv => ?_⟩
  have hi : i < m := by
    have := (List.getElem?_eq_some_iff.1 hv).1
    rwa [partC_length] at this
  rw [hc i hi, ← hv]
  simp [partC, List.getElem?_map, List.getElem?_range hi, List.getD_eq_getElem?_getD, List.getElem?_take, List.getElem?_drop, hi]
theorem partC_one (xs : List Int) (j m : Nat) : ∀ v ∈ partC xs j m, v.oneCell' = true := by
  intro v hv
  obtain ⟨k, _, rfl⟩ := List.mem_map.1 hv
  rfl
theorem splice_part (c h : Int) (xs : List Int) (j m : Nat) (hm : m ≤ 8) :
    (splice (Bl.mk c h (part8 xs j 0) 0).arr.toList 2 (partC xs j m)).toArray = (Bl.mk c h (part8 xs j m) 0).arr := by
  match m, hm with
  | 0, _ => rfl
  | 1, _ => rfl
  | 2, _ => rfl
  | 3, _ => rfl
  | 4, _ => rfl
  | 5, _ => rfl
  | 6, _ => rfl
  | 7, _ => rfl
  | 8, _ => rfl

theorem KeepsOthers.of_below {W W' : World} (h : Below W.heap.size W W') : KeepsOthers W W' :=
  ⟨h.size, fun k o hk _ => (h.block k (Array.getElem?_eq_some_iff.1 hk).1).trans hk⟩
theorem Kp2.of_below {Bs Bn B : Nat} {W W' : World} (h : Below B W W') (h1 : Bs < B) (h2 : Bn < B) : Kp2 Bs Bn W W' := ⟨h.block _ h1, h.block _ h2⟩

end Go.Proofs.YtjjflbnopphciabDoor

namespace Go.Proofs.YtjjflbnopphciabDoor
open Go.RowKit
open Go.Shelf
attribute [local go_sem] Oper.semAt_some

theorem cutE_parts {n : Nat} {xs : List Int} {h c : Int} (hE : cutE n xs h c = 0) : cntN n ≤ 40 ∧ Bnd xs 32767 ∧ (0 ≤ h ∧ h ≤ 3) ∧ 0 ≤ c ∧ c + ((cntN n - 1 : Nat) : Int) ≤ 65535 := by
  unfold cutE at hE
  split at hE
  · cases hE
  rename_i h1
  split at hE
  · cases hE
  rename_i h2
  split at hE
  · cases hE
  rename_i h3
  split at hE
  · cases hE
  rename_i h4
  split at hE
  · cases hE
  rename_i h5
  have h2' : smpB xs = true := by simpa using h2
  have h4' : inB c 0 65535 = true := by simpa using h4
  have h3' : rangeE h 0 3 = 0 := by rcases rangeE_two h 0 3 with e | e; exact e; exact absurd e h3
  exact ⟨by omega, bnd_of_rangesE xs (by simpa [smpB] using h2'), (rangeE_zero _ _ _).1 h3', by simp [inB] at h4'; omega, by omega⟩

/-- Block i, cut out of part x. -/
def blkP (xs : List Int) (h c : Int) (i x : Nat) : Bl := ⟨c + i, h, part8 xs x 8, sumT (c + i) h (part8 xs x 8)⟩
def blksP (xs : List Int) (h c : Int) (q : List Nat) : List Bl := (List.range q.length).map fun i => blkP xs h c i (q.getD i 0)
theorem blksP_snoc (xs : List Int) (h c : Int) (q : List Nat) (x : Nat) : blksP xs h c (q ++ [x]) = blksP xs h c q ++ [blkP xs h c q.length x] := by
  unfold blksP
  rw [List.length_append, List.length_singleton, List.range_succ, List.map_append]
  congr 1
  · refine List.map_congr_left fun i hi => ?_
    have : i < q.length := by simpa using hi
    simp [List.getElem?_append_left this]
  · simp
theorem blksP_range (xs : List Int) (h c : Int) (k : Nat) : blksP xs h c (List.range k) = blksX xs h c k := by
  unfold blksP blksX
  rw [List.length_range]
  refine List.map_congr_left fun i hi => ?_
  have : i < k := by simpa using hi
  simp [blkP, blkX, this]
theorem cellAllocT {w : World} {a : Addr} {v : Value} (o : Obj) (h : w.cell? a = some v) : (w.alloc o).cell? a = some v := by
  have hlt : a.block < w.heap.size := by
    rcases Nat.lt_or_ge a.block w.heap.size with h1 | h1
    · exact h1
    · unfold World.cell? at h; rw [Array.getElem?_eq_none h1] at h; cases h
  exact (((Below.refl w.heap.size w).alloc (Nat.le_refl _) o).cell hlt).trans h
theorem boxed2 (w : World) (o : Obj) (t : TypeId) (v : Value) : Boxed ((w.alloc o).alloc (.cells #[v] t)) (w.heap.size + 1) t v := by
  have := Boxed.new (w.alloc o) t v
  simpa using this
theorem ownBase {w : World} {base base' size n : Nat} {t : TypeId} {v : Value} {xs : List Value} (h : w.ownsRow base t size v n xs) (hb : base' ≤ base) : w.ownsRow base' t size v n xs :=
  ⟨h.1, h.2.imp id (fun ⟨g, cap, cur, h1, h2, r⟩ => ⟨g, cap, cur, h1, Nat.le_trans hb h2, r⟩)⟩
end Go.Proofs.YtjjflbnopphciabDoor

namespace Go.Proofs.YtjjflbnopphciabDoor
open Go.RowKit

theorem blCells_at (bs : List Bl) (j i : Nat) (hj : j < bs.length) (hi : i < 11) : (blCells bs)[j * 11 + i]? = (bs.getD j bl0).arr.toList[i]? := by
  induction bs generalizing j with
  | nil => simp at hj
  | cons b t ih =>
    have hb : b.arr.toList.length = 11 := rfl
    cases j with
    | zero =>
      simp only [blCells, List.flatMap_cons, Nat.zero_mul, Nat.zero_add]
      rw [List.getElem?_append_left (by rw [hb]; exact hi)]
      rfl
    | succ j =>
      simp only [blCells, List.flatMap_cons]
      rw [List.getElem?_append_right (by rw [hb]; omega), hb, show (j + 1) * 11 + i - 11 = j * 11 + i by omega]
      have := ih j (by simpa using hj)
      simpa [blCells] using this

theorem RdB.of_own {w : World} {base n c : Nat} {A : Option Addr} {bs : List Bl} (h : w.ownsRow base 58 11 (.slice A n c) n (blCells bs)) (hl : bs.length = n) : RdB w A n bs := by
  refine ⟨hl, fun h0 => ?_⟩
  rcases h.2 with ⟨_, e⟩ | ⟨g, cap, cur, e, _, hg, h1, h2, h3, h4⟩
  · omega
  · simp only [Value.slice.injEq] at e
    obtain ⟨rfl, _, rfl⟩ := e
    refine ⟨g, rfl, (Array.getElem?_eq_some_iff.1 hg).1, fun j hj i v hv => ?_⟩
    have hi : i < 11 := (List.getElem?_eq_some_iff.1 hv).1
    rw [cell_of_row w g (j * 11 + i) cur _ (0, 0) hg, ← Array.getElem?_toList]
    have e1 : (cur.toList.take (n * 11))[j * 11 + i]? = some v := by rw [h4, blCells_at bs j i (by omega) hi]; exact hv
    rw [List.getElem?_take, if_pos (by omega)] at e1
    exact e1

theorem sumT_in (c h : Int) (xs : List Int) : 0 ≤ sumT c h xs ∧ sumT c h xs < 65537 := by unfold sumT; omega
theorem blksX_ok (xs : List Int) (h c : Int) (k : Nat) (hx : Bnd xs 32767) (hh : 0 ≤ h ∧ h ≤ 3) (hc : ∀ j : Nat, j < k → 0 ≤ c + (j : Int) ∧ c + (j : Int) ≤ 65535) : ∀ j, j < k → ((blksX xs h c k).getD j bl0).Ok := by
  intro j hj
  have e : (blksX xs h c k).getD j bl0 = blkX xs h c j := by simp [blksX, List.getD_eq_getElem?_getD, hj]
  rw [e]
  have hs := sumT_in (c + j) h (part8 xs j 8)
  have hcj := hc j hj
  have hp := part8_bnd xs j hx
  refine ⟨⟨by show _ ≤ c + (j : Int); omega, by show c + (j : Int) ≤ _; omega⟩, ⟨by show _ ≤ h; omega, by show h ≤ _; omega⟩, fun i hi => ?_, ⟨by show _ ≤ sumT _ _ _; omega, by show sumT _ _ _ ≤ _; omega⟩⟩
  have hpi := hp i
  have : [(part8 xs j 8).getD 0 0, (part8 xs j 8).getD 1 0, (part8 xs j 8).getD 2 0, (part8 xs j 8).getD 3 0, (part8 xs j 8).getD 4 0, (part8 xs j 8).getD 5 0, (part8 xs j 8).getD 6 0, (part8 xs j 8).getD 7 0].getD i 0 = (part8 xs j 8).getD i 0 := by
    rw [eight_eq _ (part8_length xs j 8)]
  rw [this] at hpi
  exact ⟨by show _ ≤ (part8 xs j 8).getD i 0; omega, by show (part8 xs j 8).getD i 0 ≤ _; omega⟩

theorem copyInts_rd (A : Option Addr) (n c : Nat) (l : List Int) (w : World) (hA : A = none → n = 0 ∧ c = 0) (hr : RdI w A n l) (hn : n ≤ 1000000) :
    Calls Tryd.prog 35 #[.slice A n c] w fun e w' => ∃ A3 c3, e = .returned (.slice A3 n c3) ∧ n ≤ c3 ∧ c3 ≤ 9223372036854775807 ∧ RdI w' A3 n l ∧ Below w.heap.size w w' :=
  (copyInts_any A n c l w hA hr hn).mono (by
    rintro e w' ⟨v, rfl, ho, hb⟩
    obtain ⟨A3, c3, rfl, h1, h2, h3⟩ := rd_own_c ho
    exact ⟨A3, c3, rfl, h1, h2, h3, hb⟩)

end Go.Proofs.YtjjflbnopphciabDoor

namespace Go.Proofs.YtjjflbnopphciabDoor
open Go.RowKit

theorem lostE_drop (count last : Int) (xs : List Int) (k : Nat) (hk : k < xs.length) : lostE count last (xs.drop k) = if ascE count last (xs.getD k 0) = 0 then lostE count (xs.getD k 0) (xs.drop (k + 1)) else ascE count last (xs.getD k 0) := by
  rw [List.drop_eq_getElem_cons hk, List.getD_eq_getElem?_getD, List.getElem?_eq_getElem hk]; rfl

set_option maxRecDepth 100000 in
set_option maxHeartbeats 4000000 in
theorem checkEachAsc_any (A : Option Addr) (n c : Nat) (xs : List Int) (count last : Int) (b0 b1 : Nat) (w : World) (hr : ∀ W, Below b1 w W → RdI W A n xs) (hn : n ≤ 1000000)
    (h0 : w.cell? ⟨b0, 0, none⟩ = some (.int .i64 count)) (hb : Bk w b1 3 #[.int .i64 last]) (hne : b0 < b1) :
    Calls Tryd.prog 38 #[.slice A n c, .func (Fn.func 64) #[] #[.pointer (some ⟨b0, 0, none⟩), .pointer (some ⟨b1, 0, none⟩)]] w
      fun e w' => e = .returned (.int .i64 (lostE count last xs)) ∧ Below b1 w w' := by
  have HR := Lib.hid hr
  have H0 := Lib.hid h0
  have H1 := Lib.hid hb
  have HNE := Lib.hid hne
  have HLEN : Hid (xs.length = n) := (hr w (Below.refl _ _)).1
  clear hr h0 hb hne
  go_enter Tryd.func38, Tryd.ntmps38
  go_wp2
  go_loopw [10] (fun i wr => ∃ (k : Nat) (l : Int), k ≤ n ∧ i = .int .i64 k ∧ Hid (lostE count last xs = lostE count l (xs.drop k)) ∧ Hid (wr.cell? ⟨b0, 0, none⟩ = some (.int .i64 count)) ∧ Hid (Bk wr b1 3 #[.int .i64 l]) ∧ Hid (Below b1 w wr)) (fun i _ => n - (intOf i).toNat)
  case atStart => exact ⟨0, last, Nat.zero_le _, rfl, rfl, H0.out, H1.out, Below.refl _ _⟩
  case round =>
    obtain ⟨k, l, hk, rfl, HE, HC, HK, HB⟩ := hrel
    by_cases hlt : k < n
    · obtain ⟨ad, ha, _, hc⟩ := (HR.out _ HB.out).2 (by omega)
      have hck := hc k hlt
      clear hc
      subst ha
      have hs := lostE_drop count l xs k (by rw [HLEN.out]; exact hlt)
      obtain ⟨x, hx⟩ : ∃ x, xs.getD k 0 = x := ⟨_, rfl⟩
      rw [hx] at hck hs
      obtain ⟨r, hrr⟩ : ∃ r, ascE count l x = r := ⟨_, rfl⟩
      have C := Lib.hid (asc1_any x count l b0 b1 wr HC.out HK.out HNE.out)
      rw [hrr] at hs C
      have HS := Lib.hid hs
      have hkI : (k : Int) < (n : Int) := by omega
      clear hs hx hrr
      go_wp2_with (go_at_call 64; refine C.out.mono ?_; rintro e w' ⟨rfl, hc0, hbk, hbl⟩)
      · have h1 : (r != 0) = true := by assumption
        have HF : Hid (Below b1 w w') := HB.out.trans hbl
        go_ret
        have h2 : r ≠ 0 := by simpa using h1
        exact ⟨by rw [HE.out, HS.out, if_neg h2]; rfl, HF.out⟩
      · have h1 : (r != 0) = false := by assumption
        have h2 : r = 0 := by simpa using h1
        have HF : Hid (Below b1 w w') := HB.out.trans hbl
        have HC2 := Lib.hid hc0
        have HK2 := Lib.hid hbk
        clear hc0 hbk hbl
        go_roundw
        case rel =>
          refine ⟨k + 1, x, by omega, by go_num, ?_, HC2.out, HK2.out, HF.out⟩
          show lostE count last xs = _
          rw [HE.out, HS.out, if_pos h2]
        case measure => simp [intOf]; omega
    · go_wp2
      go_ret
      refine ⟨?_, HB.out⟩
      rw [HE.out, List.drop_of_length_le (by rw [HLEN.out]; omega)]
      rfl

set_option maxRecDepth 100000 in
theorem ascBelow_any (count : Int) (w : World) :
    Calls Tryd.prog 39 #[.int .i64 count] w fun e w' => e = .returned (.func (.func 64) #[] #[.pointer (some ⟨w.heap.size, 0, none⟩), .pointer (some ⟨w.heap.size + 1, 0, none⟩)]) ∧ (w.alloc (.cells #[.int .i64 count] 3)).alloc (.cells #[.int .i64 (-1)] 3) = w' := by
  go_enter Tryd.func39, Tryd.ntmps39
  go_wp2
  go_ret
  first | exact ⟨rfl, rfl⟩ | (refine ⟨?_, rfl⟩; simp)

/-- Whether a number is in a list. -/
def hasB : List Int → Int → Bool
  | [], _ => false
  | x :: t, v => if x = v then true else hasB t v
theorem hasB_drop (xs : List Int) (v : Int) (k : Nat) (hk : k < xs.length) : hasB (xs.drop k) v = if xs.getD k 0 = v then true else hasB (xs.drop (k + 1)) v := by
  rw [List.drop_eq_getElem_cons hk, List.getD_eq_getElem?_getD, List.getElem?_eq_getElem hk]; rfl
theorem hasB_mem (xs : List Int) (v : Int) : hasB xs v = true ↔ v ∈ xs := by
  induction xs with
  | nil => simp [hasB]
  | cons x t ih =>
    unfold hasB
    by_cases h : x = v
    · rw [if_pos h]; simp [h]
    · rw [if_neg h, ih]; simp [Ne.symm h]
def IdxR (xs : List Int) (v : Int) (w : World) (e : Ending) (w' : World) : Prop := (∃ I : Int, e = .returned (.int .i64 I) ∧ decide (0 ≤ I) = hasB xs v) ∧ w = w'

theorem indexV_any (A : Option Addr) (n c : Nat) (xs : List Int) (v : Int) (w : World) (hr : RdI w A n xs) (hn : n ≤ 1000000) :
    Calls Tryd.prog 77 #[.slice A n c, .int .i64 v] w (IdxR xs v w) := by
  have HR := Lib.hid hr; clear hr
  go_enter Tryd.func77, Tryd.ntmps77
  go_wp2
  go_loop [8] (fun i => ∃ k : Nat, k ≤ n ∧ i = .int .i64 k ∧ Hid (hasB xs v = hasB (xs.drop k) v)) (fun i => n - (intOf i).toNat)
  case atStart => exact ⟨0, Nat.zero_le _, rfl, rfl⟩
  case round =>
    obtain ⟨k, hk, rfl, H0⟩ := hrel
    by_cases hlt : k < n
    · obtain ⟨ad, ha, _, hc⟩ := HR.out.2 (by omega)
      have hck := hc k hlt
      clear hc
      subst ha
      have hs := hasB_drop xs v k (by rw [HR.out.1]; exact hlt)
      obtain ⟨x, hxe⟩ : ∃ x, xs.getD k 0 = x := ⟨_, rfl⟩
      rw [hxe] at hck hs
      have HS := Lib.hid hs
      clear hxe hs
      by_cases hx0 : x = v
      · have h1 : (v == x) = true := by simpa using hx0.symm
        have hh : hasB xs v = true := by rw [H0.out, HS.out, if_pos hx0]
        have HH := Lib.hid hh
        clear hh hx0
        go_wp2
        go_ret
        exact ⟨⟨_, rfl, by rw [HH.out]; simp⟩, rfl⟩
      · have h1 : (v == x) = false := by simpa using fun h => hx0 h.symm
        have hh : hasB xs v = hasB (xs.drop (k + 1)) v := by rw [H0.out, HS.out, if_neg hx0]
        have HH := Lib.hid hh
        clear hh hx0
        go_wp2
        go_round
        case rel => exact ⟨k + 1, by omega, by go_num, HH.out⟩
        case measure => simp [intOf]; omega
    · go_wp2
      go_ret
      refine ⟨⟨-1, rfl, ?_⟩, rfl⟩
      rw [H0.out, List.drop_of_length_le (by have := HR.out.1; omega)]
      rfl
theorem contains_any (A : Option Addr) (n c : Nat) (xs : List Int) (v : Int) (w : World) (hr : RdI w A n xs) (hn : n ≤ 1000000) :
    Calls Tryd.prog 60 #[.slice A n c, .int .i64 v] w fun e w' => e = .returned (.bool (hasB xs v)) ∧ w = w' := by
  have C := Lib.hid (indexV_any A n c xs v w hr hn)
  clear hr
  go_enter Tryd.func60, Tryd.ntmps60
  go_wp2_with fail
  refine C.out.mono ?_
  rintro e w' ⟨⟨I, rfl, hI⟩, rfl⟩
  have HI := Lib.hid hI
  clear hI
  go_wp2
  go_ret
  exact ⟨by rw [← HI.out]; rfl, rfl⟩
theorem has_any (A : Option Addr) (n c : Nat) (xs : List Int) (v : Int) (w : World) (hr : RdI w A n xs) (hn : n ≤ 1000000) :
    Calls Tryd.prog 37 #[.slice A n c, .int .i64 v] w fun e w' => e = .returned (.bool (hasB xs v)) ∧ w = w' := by
  have HR := Lib.hid hr; clear hr
  go_enter Tryd.func37, Tryd.ntmps37
  go_wp2
  go_loop [5] (fun i => ∃ k : Nat, k ≤ n ∧ i = .int .i64 k ∧ Hid (hasB xs v = hasB (xs.drop k) v)) (fun i => n - (intOf i).toNat)
  case atStart => exact ⟨0, Nat.zero_le _, rfl, rfl⟩
  case round =>
    obtain ⟨k, hk, rfl, H0⟩ := hrel
    by_cases hlt : k < n
    · obtain ⟨ad, ha, _, hc⟩ := HR.out.2 (by omega)
      have hck := hc k hlt
      clear hc
      subst ha
      have hs := hasB_drop xs v k (by rw [HR.out.1]; exact hlt)
      obtain ⟨x, hxe⟩ : ∃ x, xs.getD k 0 = x := ⟨_, rfl⟩
      rw [hxe] at hck hs
      have HS := Lib.hid hs
      clear hxe hs
      by_cases hx0 : x = v
      · have h1 : (x == v) = true := by simpa using hx0
        have hh : hasB xs v = true := by rw [H0.out, HS.out, if_pos hx0]
        have HH := Lib.hid hh
        clear hh hx0
        go_wp2
        go_ret
        exact ⟨by rw [HH.out]; rfl, rfl⟩
      · have h1 : (x == v) = false := by simpa using hx0
        have hh : hasB xs v = hasB (xs.drop (k + 1)) v := by rw [H0.out, HS.out, if_neg hx0]
        have HH := Lib.hid hh
        clear hh hx0
        go_wp2
        go_round
        case rel => exact ⟨k + 1, by omega, by go_num, HH.out⟩
        case measure => simp [intOf]; omega
    · go_wp2
      go_ret
      refine ⟨?_, rfl⟩
      rw [H0.out, List.drop_of_length_le (by have := HR.out.1; omega)]
      rfl

/-- The indexes that are not lost. -/
def kepL (lost : List Int) : Nat → List Int
  | 0 => []
  | m + 1 => if hasB lost m then kepL lost m else kepL lost m ++ [(m : Int)]
theorem kepL_len (lost : List Int) (m : Nat) : (kepL lost m).length ≤ m := by
  induction m with
  | zero => simp [kepL]
  | succ m ih =>
    unfold kepL
    split
    · omega
    · rw [List.length_append, List.length_singleton]; omega
theorem kepL_mem (lost : List Int) (m : Nat) (x : Int) : x ∈ kepL lost m ↔ (0 ≤ x ∧ x < m ∧ hasB lost x = false) := by
  induction m with
  | zero => simp [kepL]; omega
  | succ m ih =>
    unfold kepL
    by_cases h : hasB lost m = true
    · rw [if_pos h, ih]
      constructor
      · rintro ⟨a, b, c⟩; exact ⟨a, by omega, c⟩
      · rintro ⟨a, b, c⟩
        refine ⟨a, ?_, c⟩
        rcases Int.lt_or_eq_of_le (show x ≤ m by omega) with h2 | h2
        · exact h2
        · subst h2; rw [h] at c; cases c
    · rw [if_neg h, List.mem_append, List.mem_singleton, ih]
      constructor
      · rintro (⟨a, b, c⟩ | rfl)
        · exact ⟨a, by omega, c⟩
        · exact ⟨by omega, by omega, by simpa using h⟩
      · rintro ⟨a, b, c⟩
        rcases Int.lt_or_eq_of_le (show x ≤ m by omega) with h2 | h2
        · exact .inl ⟨a, h2, c⟩
        · exact .inr h2
theorem litKept (W : World) (k : Int) : ∀ j u, [Value.int .i64 k][j]? = some u → (W.alloc (.cells #[.int .i64 k] 3)).cell? ((⟨W.heap.size, 0, none⟩ : Addr).add j) = some u := by
  intro j u hj
  cases j with
  | zero => have : Value.int .i64 k = u := by simpa using hj
            subst this
            simp [go_sem, Addr.add]
  | succ j => simp at hj

/-- What keptOf answers: a list of its own. -/
def KepR (w : World) (ks : List Int) (e : Ending) (w' : World) : Prop := (∃ v, e = .returned v ∧ w'.ownsRow w.heap.size 3 1 v ks.length (ks.map (Value.int .i64))) ∧ Below w.heap.size w w'
set_option maxRecDepth 100000 in
set_option maxHeartbeats 4000000 in
theorem keptOf_any (m : Nat) (A : Option Addr) (n c : Nat) (lost : List Int) (w : World) (hr : RdI w A n lost) (hn : n ≤ 1000000) (hm : m ≤ 1000000) :
    Calls Tryd.prog 30 #[.int .i64 m, .slice A n c] w (KepR w (kepL lost m)) := by
  obtain ⟨i0, hi, hz0, hz1, hz2⟩ := info_parts intInfo
  have HR := Lib.hid hr
  clear hr
  go_enter Tryd.func30, Tryd.ntmps30
  go_wp2
  go_loopw [5, 8] (fun s i wr => ∃ k q : Nat, k ≤ m ∧ i = .int .i64 k ∧ Hid ((kepL lost k).length = q) ∧ Hid (wr.ownsRow w.heap.size 3 1 s q ((kepL lost k).map (Value.int .i64))) ∧ Hid (Below w.heap.size w wr)) (fun _ i _ => m - (intOf i).toNat)
  case atStart => exact ⟨0, 0, Nat.zero_le _, rfl, rfl, World.ownsRow_nil _ _ _ _, Below.refl _ _⟩
  case round =>
    obtain ⟨k, q, hk, rfl, HQ, HO, HB⟩ := hrel
    by_cases hlt : k < m
    · have hq : q ≤ k := by have := kepL_len lost k; rw [HQ.out] at this; exact this
      have C := Lib.hid (contains_any A n c lost k wr (HR.out.below HB.out) hn)
      have hkI : (k : Int) < (m : Int) := by omega
      have hsz : w.heap.size ≤ wr.heap.size := HB.out.size
      have hst : kepL lost (k + 1) = if hasB lost k then kepL lost k else kepL lost k ++ [(k : Int)] := rfl
      cases hh : hasB lost k with
      | true =>
        rw [hh] at C hst
        rw [if_pos rfl] at hst
        have HS := Lib.hid hst
        clear hst hh
        go_wp2_with (go_at_call 60; refine C.out.mono ?_; rintro e w' ⟨rfl, rfl⟩)
        go_roundw
        case rel => exact ⟨k + 1, q, by omega, by go_num, by show _ = _; rw [HS.out]; exact HQ.out, by show World.ownsRow _ _ _ _ _ _ _; rw [HS.out]; exact HO.out, HB.out⟩
        case measure => simp [intOf]; omega
      | false =>
        rw [hh] at C hst
        rw [if_neg (by decide)] at hst
        have HS := Lib.hid hst
        clear hst hh
        go_wp2_with (first
          | (go_at_call 60; refine C.out.mono ?_; rintro e w' ⟨rfl, rfl⟩)
          | (at_builtin; refine wpList_append_own _ rfl (.tmp 15) (.tmp 17) 31 rfl w.heap.size 3 i0 (.int .i64 0) 1 8 intsUnder hi hz0 hz1 hz2 rfl (by decide) _ _ _ rfl (HO.out.alloc _) ⟨wr.heap.size, 0, none⟩ 1 1 [.int .i64 (k : Int)] rfl rfl (litKept wr k) (by intro u hu; rw [List.mem_singleton.1 hu]; rfl) (by unfold maxLen; omega) (by omega) (by simp; omega) ?_))
        intro v' w1 hown' hgrow _
        have hb1 : Below w.heap.size w w1 := (HB.out.alloc hsz _).grown hgrow (by simp; omega) (fun z hz => (HO.out.lt z hz).1)
        have O1 : Hid (w1.ownsRow w.heap.size 3 1 v' (q + 1) ((kepL lost (k + 1)).map (Value.int .i64))) := by
          show w1.ownsRow _ _ _ _ _ _
          rw [HS.out, List.map_append, List.map_singleton]
          exact hown'
        have Q1 : Hid ((kepL lost (k + 1)).length = q + 1) := by show _ = _; rw [HS.out, List.length_append, HQ.out]; rfl
        have B1 := Lib.hid hb1
        clear hown' hgrow hb1
        go_wp2
        go_roundw
        case rel => exact ⟨k + 1, q + 1, by omega, by go_num, Q1.out, O1.out, B1.out⟩
        case measure => simp [intOf]; omega
    · obtain rfl : k = m := by omega
      go_wp2
      go_ret
      exact ⟨⟨_, rfl, by rw [HQ.out]; exact HO.out⟩, HB.out⟩
theorem keptOf_rd (m : Nat) (A : Option Addr) (n c : Nat) (lost : List Int) (w : World) (hr : RdI w A n lost) (hn : n ≤ 1000000) (hm : m ≤ 1000000) (q : Nat) (hq : (kepL lost m).length = q) :
    Calls Tryd.prog 30 #[.int .i64 m, .slice A n c] w fun e w' => ∃ A3 c3, e = .returned (.slice A3 q c3) ∧ RdI w' A3 q (kepL lost m) ∧ Below w.heap.size w w' :=
  (keptOf_any m A n c lost w hr hn hm).mono (by
    subst hq
    rintro e w' ⟨⟨v, rfl, ho⟩, hb⟩
    obtain ⟨A3, c3, rfl, _, _, h3⟩ := rd_own_c ho
    exact ⟨A3, c3, rfl, h3, hb⟩)
end Go.Proofs.YtjjflbnopphciabDoor

