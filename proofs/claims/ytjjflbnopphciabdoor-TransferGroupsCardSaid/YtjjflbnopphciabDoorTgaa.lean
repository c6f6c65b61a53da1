import Derived.Test.YtjjflbnopphciabDoorProg
import Derived.WalkKit
import Derived.WalkSpells
import Derived.WalkLawsBesides
import Derived.Lib.Hide
import Derived.Deep.QuietTactic
import Derived.BigQuiet
import Derived.Deep.RegionHeld3
import Derived.Laws.CopyOwn
import Derived.Deep.RegionLaw
namespace Go.Proofs.YtjjflbnopphciabDoor
open Go.RowKit

def inB (n lo hi : Int) : Bool := decide (lo ≤ n) && decide (n ≤ hi)

theorem within_any (n lo hi : Int) (w : World) :
    Calls Tryd.prog 13 #[.int .i64 n, .int .i64 lo, .int .i64 hi] w fun e w' => e = .returned (.bool (inB n lo hi)) ∧ w = w' := by
  by_cases h1 : lo ≤ n
  · go_enter Tryd.func13, Tryd.ntmps13
    go_wp2
    go_ret
    exact ⟨by simp [inB, h1], rfl⟩
  · go_enter Tryd.func13, Tryd.ntmps13
    go_wp2
    go_ret
    exact ⟨by simp [inB]; omega, rfl⟩

def whenE (b : Bool) (e : Int) : Int := if b then e else 0

theorem when_any (b : Bool) (e : Int) (w : World) :
    Calls Tryd.prog 25 #[.bool b, .int .i64 e] w fun r w' => r = .returned (.int .i64 (whenE b e)) ∧ w = w' := by
  cases b
  all_goals
    go_enter Tryd.func25, Tryd.ntmps25
    go_wp2
    go_ret
    exact ⟨rfl, rfl⟩

def rangeE (n lo hi : Int) : Int := if inB n lo hi then 0 else 2

theorem checkRange_any (n lo hi : Int) (w : World) :
    Calls Tryd.prog 28 #[.int .i64 n, .int .i64 lo, .int .i64 hi] w fun r w' => r = .returned (.int .i64 (rangeE n lo hi)) ∧ w = w' := by
  by_cases h1 : n < lo
  · go_enter Tryd.func28, Tryd.ntmps28
    go_wp2_with (go_at_call 25; refine (when_any _ _ _).mono ?_; rintro e w' ⟨rfl, rfl⟩)
    go_ret
    exact ⟨by simp [rangeE, inB, whenE]; omega, rfl⟩
  · go_enter Tryd.func28, Tryd.ntmps28
    go_wp2_with (go_at_call 25; refine (when_any _ _ _).mono ?_; rintro e w' ⟨rfl, rfl⟩)
    go_ret
    exact ⟨by simp [rangeE, inB, whenE]; split <;> split <;> omega, rfl⟩

theorem tmod_bd (n b : Int) (hb : 0 < b) : -b < n.tmod b ∧ n.tmod b < b := by
  have h1 := Int.tmod_lt_of_pos n hb
  have h2 : -b < n.tmod b := by have h3 := Int.tmod_lt_of_pos (-n) hb; rw [Int.neg_tmod] at h3; omega
  exact ⟨h2, h1⟩
theorem tmod_eq (n b : Int) (hb : 0 < b) : n.tmod b = n % b ∨ n.tmod b = n % b - b := by
  rw [Int.tmod_eq_emod]
  split
  · left; omega
  · right; omega
theorem tmod_neg (n b : Int) (hb : 0 < b) (h : n.tmod b < 0) : n.tmod b + b = n % b := by
  rcases tmod_eq n b hb with e | e
  · have := Int.emod_nonneg n (by omega : b ≠ 0); omega
  · omega
theorem tmod_pos (n b : Int) (hb : 0 < b) (h : 0 ≤ n.tmod b) : n.tmod b = n % b := by
  rcases tmod_eq n b hb with e | e
  · exact e
  · have := Int.emod_lt_of_pos n hb; omega

theorem mod_any (n b : Int) (hn0 : -9223372036854775808 ≤ n) (hn1 : n ≤ 9223372036854775807) (hb : 0 < b) (hb2 : b ≤ 4611686018427387904) (w : World) :
    Calls Tryd.prog 12 #[.int .i64 n, .int .i64 b] w fun r w' => r = .returned (.int .i64 (n % b)) ∧ w = w' := by
  go_enter Tryd.func12, Tryd.ntmps12
  go_wp2
  all_goals go_ret
  · have h : n.tmod b < 0 := by assumption
    have h1 := tmod_bd n b hb
    refine ⟨?_, rfl⟩
    show Ending.returned (Value.int .i64 (wrap64 (n.tmod b + b))) = _
    rw [IntWalk.wrap64_in _ ⟨by omega, by omega⟩, tmod_neg n b hb h]
  · have h : 0 ≤ n.tmod b := by assumption
    refine ⟨?_, rfl⟩
    show Ending.returned (Value.int .i64 (n.tmod b)) = _
    rw [tmod_pos n b hb h]

end Go.Proofs.YtjjflbnopphciabDoor

namespace Go.Proofs.YtjjflbnopphciabDoor
open Go.RowKit

def firstE : List Int → Int
  | [] => 0
  | e :: es => if e = 0 then firstE es else e

theorem firstE_drop (es : List Int) (k : Nat) (hk : k < es.length) : firstE (es.drop k) = if es.getD k 0 = 0 then firstE (es.drop (k + 1)) else es.getD k 0 := by
  rw [List.drop_eq_getElem_cons hk]
  simp [firstE, List.getD_eq_getElem?_getD, List.getElem?_eq_getElem hk]

theorem firstError_any (b : Nat) (n c : Nat) (es : List Int) (w : World) (hl : es.length = n) (hc : ∀ j, j < n → w.cell? ⟨b, j, none⟩ = some (.int .i64 (es.getD j 0))) (hn : n ≤ 100) :
    Calls Tryd.prog 24 #[.slice (some ⟨b, 0, none⟩) n c] w fun e w' => e = .returned (.int .i64 (firstE es)) ∧ w = w' := by
  have HC := Lib.hid hc; clear hc
  have HL := Lib.hid hl; clear hl
  go_enter Tryd.func24, Tryd.ntmps24
  go_wp2
  go_loop [4, 7] (fun e i => ∃ k : Nat, k ≤ n ∧ i = .int .i64 k ∧ firstE es = firstE (es.drop k)) (fun _ i => n - (intOf i).toNat)
  case atStart => exact ⟨0, Nat.zero_le _, rfl, rfl⟩
  case round =>
    obtain ⟨k, hk, rfl, he⟩ := hrel
    have HE := Lib.hid he; clear he
    by_cases hlt : k < n
    · have hck := HC.out k hlt
      go_wp2
      · have h1 : (es[k]?.getD 0 != 0) = true := by assumption
        go_ret
        refine ⟨?_, rfl⟩
        rw [HE.out, firstE_drop es k (by have := HL.out; omega)]
        have h2 : es[k]?.getD 0 ≠ 0 := by simpa using h1
        simp [h2]
      · have h1 : (es[k]?.getD 0 != 0) = false := by assumption
        go_round
        case rel =>
          refine ⟨k + 1, by omega, by go_num, ?_⟩
          rw [HE.out, firstE_drop es k (by have := HL.out; omega)]
          have h2 : es[k]?.getD 0 = 0 := by simpa using h1
          simp [h2]
        case measure => simp [intOf]; omega
    · go_wp2
      go_ret
      refine ⟨?_, rfl⟩
      rw [HE.out, List.drop_of_length_le (by have := HL.out; omega)]
      rfl

end Go.Proofs.YtjjflbnopphciabDoor

namespace Go.Proofs.YtjjflbnopphciabDoor
open Go.RowKit

theorem blw_drewN {B : Nat} {a w : World} (h : Below B a w) (n : Nat) : Below B a (w.drewN n) := ⟨h.os, h.tape, h.output, h.size, h.block⟩

def letB (c : Int) : Bool := (decide (97 ≤ c) && decide (c ≤ 122)) || (decide (65 ≤ c) && decide (c ≤ 90))
def digB (c : Int) : Bool := decide (48 ≤ c) && decide (c ≤ 57)

theorem isLetter_any (c : Int) (w : World) :
    Calls Tryd.prog 78 #[.int .u8 c] w fun e w' => e = .returned (.bool (letB c)) ∧ w = w' := by
  by_cases h1 : 97 ≤ c
  · by_cases h2 : c ≤ 122
    · go_enter Tryd.func78, Tryd.ntmps78
      go_wp2
      go_ret
      exact ⟨by simp [letB, h1, h2], rfl⟩
    · have h3 : 65 ≤ c := by omega
      have h4 : ¬ c ≤ 90 := by omega
      go_enter Tryd.func78, Tryd.ntmps78
      go_wp2
      go_ret
      exact ⟨by simp [letB]; omega, rfl⟩
  · by_cases h3 : 65 ≤ c
    · by_cases h4 : c ≤ 90
      · go_enter Tryd.func78, Tryd.ntmps78
        go_wp2
        go_ret
        exact ⟨by simp [letB]; omega, rfl⟩
      · go_enter Tryd.func78, Tryd.ntmps78
        go_wp2
        go_ret
        exact ⟨by simp [letB]; omega, rfl⟩
    · go_enter Tryd.func78, Tryd.ntmps78
      go_wp2
      go_ret
      exact ⟨by simp [letB]; omega, rfl⟩

theorem isDigit_any (c : Int) (w : World) :
    Calls Tryd.prog 79 #[.int .u8 c] w fun e w' => e = .returned (.bool (digB c)) ∧ w = w' := by
  by_cases h1 : 48 ≤ c
  · go_enter Tryd.func79, Tryd.ntmps79
    go_wp2
    go_ret
    exact ⟨by simp [digB, h1], rfl⟩
  · go_enter Tryd.func79, Tryd.ntmps79
    go_wp2
    go_ret
    exact ⟨by simp [digB]; omega, rfl⟩

theorem gcd_step (x y : Int) (hy : y ≠ 0) : Int.gcd y (x.tmod y) = Int.gcd x y := by
  have h : x.tmod y = x - y * (x.tdiv y) := by have := Int.tmod_add_mul_tdiv x y; omega
  rw [h, Int.gcd_comm x y]
  have := Int.gcd_sub_mul_left_right y x (x.tdiv y)
  first | exact this | simpa using this

theorem natAbs_tmod_lt (x y : Int) (hy : y ≠ 0) : (x.tmod y).natAbs < y.natAbs := by
  rw [Int.natAbs_tmod]
  exact Nat.mod_lt _ (by omega)

theorem commonDivisor_any (a b : Int) (ha0 : -9223372036854775808 ≤ a) (ha1 : a ≤ 9223372036854775807) (hb : 0 < b) (hb1 : b ≤ 9223372036854775807) (w : World) :
    Calls Tryd.prog 68 #[.int .i64 a, .int .i64 b] w fun e w' => e = .returned (.int .i64 (Int.gcd a b)) ∧ ∃ n, w' = w.drewN n := by
  go_enter Tryd.func68, Tryd.ntmps68
  go_wp2
  go_loopw [0, 1] (fun s t wr => ∃ x y : Int, s = .int .i64 x ∧ t = .int .i64 y ∧ Hid (Int.gcd x y = Int.gcd a b) ∧ -9223372036854775808 ≤ x ∧ x ≤ 9223372036854775807 ∧ -9223372036854775808 < y ∧ y ≤ 9223372036854775807 ∧ Hid (y = 0 → -9223372036854775808 < x) ∧ Hid (∃ n, wr = w.drewN n)) (fun _ t _ => (intOf t).natAbs)
  case atStart => exact ⟨a, b, rfl, rfl, rfl, ha0, ha1, by omega, hb1, fun h => absurd h (by omega), 0, rfl⟩
  case round =>
    obtain ⟨x, y, rfl, rfl, hg, hx0, hx1, hy0, hy1, hz, hw⟩ := hrel
    by_cases h0 : y = 0
    · subst h0
      have hx2 := hz.out rfl
      go_wp2
      all_goals
        go_ret
        refine ⟨?_, hw.out⟩
        have e := hg.out
        simp only [Int.gcd_zero_right] at e
        rw [← e]
        first
        | (show Ending.returned (Value.int .i64 (-x)) = _; congr 2; omega)
        | (show Ending.returned (Value.int .i64 x) = _; congr 2; omega)
    · have h1 : (y == 0) = false := by simpa using h0
      have h2 : (y != 0) = true := by simpa using h0
      have hm := natAbs_tmod_lt x y h0
      have hg2 := gcd_step x y h0
      have HG : Hid (Int.gcd y (x.tmod y) = Int.gcd a b) := hg2.trans hg.out
      clear hg2
      have HM : Hid ((x.tmod y).natAbs < y.natAbs) := hm
      clear hm
      go_wp2
      go_quiet (fail)
      go_wp2
      go_roundw
      case rel =>
        obtain ⟨n, hn⟩ := hw.out
        have hb1 := HM.out
        refine ⟨y, x.tmod y, rfl, rfl, HG, by omega, by omega, by omega, by omega, fun _ => by omega, n + nq, ?_⟩
        rw [hn, World.drewN_drewN]
      case measure => exact HM.out

/-- What 'a fraction in lowest terms' comes to. -/
def lowB (n d : Int) : Bool := decide (0 < d) && decide ((Int.gcd n d : Int) = 1)

theorem isLowest_any (n d : Int) (hn0 : -9223372036854775808 ≤ n) (hn1 : n ≤ 9223372036854775807) (hd1 : d ≤ 9223372036854775807) (w : World) :
    Calls Tryd.prog 67 #[.agg #[.int .i64 n, .int .i64 d]] w fun e w' => e = .returned (.bool (lowB n d)) ∧ Below w.heap.size w w' := by
  by_cases h : 0 < d
  · have hd : decide (0 < d) = true := by simpa using h
    obtain ⟨g, hg⟩ : ∃ g : Int, g = (Int.gcd n d : Int) := ⟨_, rfl⟩
    have HG := Lib.hid hg
    have c := commonDivisor_any n d hn0 hn1 h hd1
    rw [← hg] at c
    clear hg
    have C : Hid (∀ w, Calls Tryd.prog 68 #[.int .i64 n, .int .i64 d] w fun e w' => e = .returned (.int .i64 g) ∧ ∃ n, w' = w.drewN n) := c
    clear c
    go_enter Tryd.func67, Tryd.ntmps67
    go_wp2_with (go_at_call 68; refine (C.out _).mono ?_; rintro e w' ⟨rfl, k, rfl⟩)
    go_ret
    refine ⟨?_, ?_⟩
    · have := HG.out
      simp [lowB, h, ← this]
      try rfl
    · exact blw_drewN ((Below.refl _ _).alloc (Nat.le_refl _) _) _
  · go_enter Tryd.func67, Tryd.ntmps67
    go_wp2
    go_ret
    exact ⟨by simp [lowB]; omega, (Below.refl _ _).alloc (Nat.le_refl _) _⟩

end Go.Proofs.YtjjflbnopphciabDoor

namespace Go.Proofs.YtjjflbnopphciabDoor

/-- The lowest 'c' bits of n, the highest of them first. -/
def bitsOf (n c : Nat) : List Int := (List.range c).map fun i => ((n / 2 ^ (c - 1 - i) % 2 : Nat) : Int)

theorem bitsOf_length (n c : Nat) : (bitsOf n c).length = c := by simp [bitsOf]
theorem bitsOf_take (n c k : Nat) (hk : k < c) : (bitsOf n c).take (k + 1) = (bitsOf n c).take k ++ [((n / 2 ^ (c - 1 - k) % 2 : Nat) : Int)] := by
  rw [List.take_succ_eq_append_getElem (by rw [bitsOf_length]; exact hk)]
  simp [bitsOf]

end Go.Proofs.YtjjflbnopphciabDoor

namespace Go.Proofs.YtjjflbnopphciabDoor
open Go.RowKit

theorem intInfo : (Tryd.prog.info? 3).map (fun i => (i.zero, i.size, i.bytes)) = some (some (.int .i64 0), 1, 8) := by kernel_rfl
theorem intsUnder : Tryd.prog.underlying 31 = some (.slice 3) := by kernel_rfl

theorem and_one_nat (a : Nat) (ha : a < 9223372036854775808) : bits BinOp.and IntKind.i64 (a : Int) 1 = ((a % 2 : Nat) : Int) := by
  have hx : a &&& 1 = a % 2 := Nat.and_one_is_mod a
  show IntKind.i64.wrap ((BitVec.ofInt 64 (a : Int) &&& BitVec.ofInt 64 (1 : Int)).toNat : Int) = _
  have e1 : (BitVec.ofInt 64 (a : Int)).toNat = a := by
    rw [BitVec.ofInt_natCast, BitVec.toNat_ofNat]; exact Nat.mod_eq_of_lt (by omega)
  have e2 : (BitVec.ofInt 64 (1 : Int)).toNat = 1 := by decide
  rw [BitVec.toNat_and, e1, e2, hx, IntKind.wrap_i64]
  omega
theorem bit_val (m j : Nat) (hm : m < 1000001) : bits BinOp.and IntKind.i64 ((m : Int) / 2 ^ j) 1 = ((m / 2 ^ j % 2 : Nat) : Int) := by
  have e2 : ((m : Int) / 2 ^ j) = ((m / 2 ^ j : Nat) : Int) := by simp
  rw [e2]
  exact and_one_nat _ (Nat.lt_of_le_of_lt (Nat.div_le_self _ _) (by omega))

set_option maxRecDepth 100000 in
theorem appendBits_any (base : Nat) (v : Value) (n : Nat) (xs : List Int) (m c : Nat) (w : World) (hown : w.ownsRow base 3 1 v n (xs.map (Value.int .i64))) (hb : base ≤ w.heap.size)
    (hm : m < 1000001) (hc : c ≤ 64) (hn : n ≤ 10000000) :
    Calls Tryd.prog 49 #[v, .int .i64 m, .int .i64 c] w fun e w' => ∃ v', e = .returned v' ∧ w'.ownsRow base 3 1 v' (n + c) ((xs ++ bitsOf m c).map (Value.int .i64)) ∧ Below base w w' := by
  obtain ⟨i0, hi, hz0, hz1, hz2⟩ := info_parts intInfo
  go_enter Tryd.func49, Tryd.ntmps49
  go_wp2
  go_loopw [0, 7] (fun s i wr => ∃ k : Nat, k ≤ c ∧ i = .int .i64 ((c : Int) - 1 - k) ∧ wr.ownsRow base 3 1 s (n + k) ((xs ++ (bitsOf m c).take k).map (Value.int .i64)) ∧ Below base w wr) (fun _ i _ => (intOf i + 1).toNat)
  case atStart => exact ⟨0, Nat.zero_le _, by simp, by simpa using hown, Below.refl _ _⟩
  case round =>
    obtain ⟨k, hk, rfl, ho, hbw⟩ := hrel
    have HO := Lib.hid ho; clear ho
    by_cases hlt : k < c
    · obtain ⟨j, hj⟩ : ∃ j : Nat, (c : Int) - 1 - k = j := ⟨c - 1 - k, by omega⟩
      rw [hj]
      have HJ := Lib.hid hj
      have hj64 : j < 64 := by omega
      clear hj
      have hv := bit_val m j hm
      obtain ⟨B, hB⟩ : ∃ B : Int, B = ((m / 2 ^ j % 2 : Nat) : Int) := ⟨_, rfl⟩
      rw [← hB] at hv
      have HB := Lib.hid hB
      clear hB
      go_wp2_with (at_builtin; refine wpList_append_own _ rfl (.tmp 14) (.tmp 19) 31 rfl base 3 i0 (.int .i64 0) 1 8 intsUnder hi hz0 hz1 hz2 rfl (by decide) _ _ _ rfl (HO.out.alloc _) ⟨wr.heap.size, 0, none⟩ 1 1 [.int .i64 B] rfl rfl ?c1 ?c2 ?c3 ?c4 ?c5 ?_)
      case c1 =>
        intro q u hq
        match q, hq with
        | 0, hq => simp at hq; subst hq; simp [Addr.add]
      case c2 => intro u hu; simp at hu; subst hu; rfl
      case c3 => unfold maxLen; omega
      case c4 => omega
      case c5 => have := hbw.size; simp; omega
      intro v' w1 hown' hgrow _
      have hb1 : Below base w w1 := (hbw.alloc (by have := hbw.size; omega) _).grown hgrow (by have := hbw.size; simp; omega) (fun q hq => (HO.out.lt q hq).1)
      have HO1 : Hid (w1.ownsRow base 3 1 v' (n + (k + 1)) ((xs ++ (bitsOf m c).take (k + 1)).map (Value.int .i64))) := by
        have e : c - 1 - k = j := by have := HJ.out; omega
        rw [bitsOf_take m c k hlt, e, ← HB.out]
        show w1.ownsRow _ _ _ _ _ _
        simpa [List.map_append, List.append_assoc, Nat.add_assoc, List.map_take] using hown'
      clear hown' hgrow
      go_wp2
      go_roundw
      case rel => exact ⟨k + 1, by omega, by have := HJ.out; congr 1; omega, HO1.out, hb1⟩
      case measure => simp [intOf] <;> omega
    · have h0 : ((c : Int) - 1 - k) = -1 := by omega
      rw [h0]
      obtain rfl : k = c := by omega
      go_wp2
      go_ret
      refine ⟨_, rfl, ?_, hbw⟩
      have := HO.out
      rw [List.take_of_length_le (by rw [bitsOf_length]; omega)] at this
      exact this

end Go.Proofs.YtjjflbnopphciabDoor

namespace Go.Proofs.YtjjflbnopphciabDoor
open Go.RowKit

/-- The slice '.slice A n c' reads as the numbers xs. -/
def RdI (w : World) (A : Option Addr) (n : Nat) (xs : List Int) : Prop :=
  xs.length = n ∧ (0 < n → ∃ ad, A = some ad ∧ ad.block < w.heap.size ∧ ∀ j, j < n → w.cell? (ad.add j) = some (.int .i64 (xs.getD j 0)))

theorem addBlock (a : Addr) (n : Nat) : (a.add n).block = a.block := by unfold Addr.add; split <;> rfl
theorem RdI.below {w w' : World} {A : Option Addr} {n : Nat} {xs : List Int} (h : RdI w A n xs) (hb : Below w.heap.size w w') : RdI w' A n xs := by
  refine ⟨h.1, fun hn => ?_⟩
  obtain ⟨ad, e, hlt, hc⟩ := h.2 hn
  exact ⟨ad, e, Nat.lt_of_lt_of_le hlt hb.size, fun j hj => (hb.cell (by rw [addBlock]; exact hlt)).trans (hc j hj)⟩

def rangesE (xs : List Int) (lo hi : Int) : Int := firstE (xs.map fun x => rangeE x lo hi)

theorem rangesE_step (xs : List Int) (lo hi : Int) (k : Nat) (hk : k < xs.length) :
    rangesE (xs.drop k) lo hi = if rangeE (xs.getD k 0) lo hi = 0 then rangesE (xs.drop (k + 1)) lo hi else rangeE (xs.getD k 0) lo hi := by
  unfold rangesE
  rw [List.drop_eq_getElem_cons hk]
  simp only [List.map_cons, firstE, List.getD_eq_getElem?_getD, List.getElem?_eq_getElem hk, Option.getD_some]

theorem from1_any (lo hi n : Int) (b0 b1 : Nat) (w : World) (h0 : w.cell? ⟨b0, 0, none⟩ = some (.int .i64 lo)) (h1 : w.cell? ⟨b1, 0, none⟩ = some (.int .i64 hi)) :
    Calls Tryd.prog 82 #[.int .i64 n, .pointer (some ⟨b0, 0, none⟩), .pointer (some ⟨b1, 0, none⟩)] w fun e w' => e = .returned (.int .i64 (rangeE n lo hi)) ∧ w = w' := by
  go_enter Tryd.func82, Tryd.ntmps82
  go_wp2_with (go_at_call 28; refine (checkRange_any _ _ _ _).mono ?_; rintro e w' ⟨rfl, rfl⟩)
  go_ret
  exact ⟨rfl, rfl⟩

theorem checkEachInt_any (A : Option Addr) (n c : Nat) (xs : List Int) (lo hi : Int) (b0 b1 : Nat) (w : World) (hr : RdI w A n xs) (hn : n ≤ 9223372036854775807)
    (h0 : w.cell? ⟨b0, 0, none⟩ = some (.int .i64 lo)) (h1 : w.cell? ⟨b1, 0, none⟩ = some (.int .i64 hi)) :
    Calls Tryd.prog 38 #[.slice A n c, .func (Fn.func 82) #[] #[.pointer (some ⟨b0, 0, none⟩), .pointer (some ⟨b1, 0, none⟩)]] w
      fun e w' => e = .returned (.int .i64 (rangesE xs lo hi)) ∧ w = w' := by
  have HR := Lib.hid hr; clear hr
  have H0 := Lib.hid h0; clear h0
  have H1 := Lib.hid h1; clear h1
  go_enter Tryd.func38, Tryd.ntmps38
  go_wp2
  go_loop [4, 10] (fun e i => ∃ k : Nat, k ≤ n ∧ i = .int .i64 k ∧ Hid (rangesE xs lo hi = rangesE (xs.drop k) lo hi)) (fun _ i => n - (intOf i).toNat)
  case atStart => exact ⟨0, Nat.zero_le _, rfl, rfl⟩
  case round =>
    obtain ⟨k, hk, rfl, HE⟩ := hrel
    by_cases hlt : k < n
    · obtain ⟨ad, ha, _, hc⟩ := HR.out.2 (by omega)
      have hck := hc k hlt
      clear hc
      subst ha
      obtain ⟨x, hx⟩ : ∃ x, xs.getD k 0 = x := ⟨_, rfl⟩
      have hs := rangesE_step xs lo hi k (by have := HR.out.1; omega)
      rw [hx] at hck hs
      have HS := Lib.hid hs; clear hs hx
      obtain ⟨r, hr⟩ : ∃ r, rangeE x lo hi = r := ⟨_, rfl⟩
      have HRr := Lib.hid hr
      have C : Hid (∀ w : World, w.cell? ⟨b0, 0, none⟩ = some (.int .i64 lo) → w.cell? ⟨b1, 0, none⟩ = some (.int .i64 hi) → Calls Tryd.prog 82 #[.int .i64 x, .pointer (some ⟨b0, 0, none⟩), .pointer (some ⟨b1, 0, none⟩)] w fun e w' => e = .returned (.int .i64 r) ∧ w = w') :=
        fun w a b => by rw [← hr]; exact from1_any lo hi x b0 b1 w a b
      clear hr
      go_wp2_with (go_at_call 82; refine (C.out _ H0.out H1.out).mono ?_; rintro e w' ⟨rfl, rfl⟩)
      · have h1 : (r != 0) = true := by assumption
        go_ret
        refine ⟨?_, rfl⟩
        have h2 : r ≠ 0 := by simpa using h1
        rw [HE.out, HS.out, HRr.out, if_neg h2]
        rfl
      · have h1 : (r != 0) = false := by assumption
        have h2 : r = 0 := by simpa using h1
        go_round
        case rel =>
          refine ⟨k + 1, by omega, by go_num, ?_⟩
          show rangesE xs lo hi = _
          rw [HE.out, HS.out, HRr.out, if_pos h2]
        case measure => simp [intOf]; omega
    · go_wp2
      go_ret
      refine ⟨?_, rfl⟩
      rw [HE.out, List.drop_of_length_le (by have := HR.out.1; omega)]
      rfl

theorem checkSignal_any (A : Option Addr) (n c : Nat) (xs : List Int) (w : World) (hr : RdI w A n xs) (hn : n ≤ 9223372036854775807) :
    Calls Tryd.prog 57 #[.slice A n c] w fun e w' => e = .returned (.int .i64 (rangesE xs (-32767) 32767)) ∧ Below w.heap.size w w' := by
  have HR := Lib.hid hr; clear hr
  go_enter Tryd.func57, Tryd.ntmps57
  go_wp2_with (go_at_call 75; go_in)
  refine (checkEachInt_any A n c xs (-32767) 32767 _ _ _ (HR.out.below (((Below.refl _ _).alloc (Nat.le_refl _) _).alloc (by simp) _)) hn ?_ ?_).mono ?_
  · simp [go_sem]
  · simp [go_sem]
  rintro e w' ⟨rfl, rfl⟩
  go_wp2
  go_ret
  exact ⟨rfl, ((Below.refl _ _).alloc (Nat.le_refl _) _).alloc (by simp) _⟩

end Go.Proofs.YtjjflbnopphciabDoor

namespace Go.Proofs.YtjjflbnopphciabDoor

def bitsTo (us : List Int) (k j : Nat) : Int := 7 + ((us.take j).map fun u => u / 2 ^ k + 1 + (k : Int)).sum
def bitsF (us : List Int) (k : Nat) : Int := bitsTo us k 8

theorem bitsTo_zero (us : List Int) (k : Nat) : bitsTo us k 0 = 7 := by simp [bitsTo]
theorem bitsTo_step (us : List Int) (k j : Nat) (hj : j < us.length) : bitsTo us k (j + 1) = bitsTo us k j + (us.getD j 0 / 2 ^ k + 1 + (k : Int)) := by
  unfold bitsTo
  rw [List.take_succ_eq_append_getElem hj]
  simp only [List.map_append, List.sum_append, List.map_cons, List.map_nil, List.sum_cons, List.sum_nil, List.getD_eq_getElem?_getD, List.getElem?_eq_getElem hj, Option.getD_some]
  omega

/-- Every number of the list is from 0 to a million. -/
def Small (us : List Int) : Prop := ∀ j, 0 ≤ us.getD j 0 ∧ us.getD j 0 ≤ 1000000

theorem quo_bd (u : Int) (k : Nat) (h0 : 0 ≤ u) (h1 : u ≤ 1000000) : 0 ≤ u / 2 ^ k ∧ u / 2 ^ k ≤ 1000000 := by
  have hp : (0 : Int) < 2 ^ k := Int.pow_pos (by decide)
  have a := Int.ediv_nonneg h0 (Int.le_of_lt hp)
  have b := Int.ediv_le_self (b := 2 ^ k) h0
  omega

theorem bitsTo_bd (us : List Int) (k j : Nat) (hs : Small us) (hk : k ≤ 17) (hj : j ≤ us.length) : 7 ≤ bitsTo us k j ∧ bitsTo us k j ≤ 7 + 1000018 * j := by
  induction j with
  | zero => simp [bitsTo_zero]
  | succ j ih =>
    have h := ih (by omega)
    have q := quo_bd _ k (hs j).1 (hs j).2
    rw [bitsTo_step us k j (by omega)]
    omega

end Go.Proofs.YtjjflbnopphciabDoor

namespace Go.Proofs.YtjjflbnopphciabDoor
open Go.RowKit

/-- An array of eight integers. -/
structure Is8 (arr : Array Value) (xs : List Int) : Prop where
  size : arr.size = 8
  len : xs.length = 8
  at_ : ∀ j, j < 8 → arr[j]? = some (.int .i64 (xs.getD j 0))

theorem arrUnder : Tryd.prog.underlying 34 = some (.array 8 3) := by kernel_rfl
theorem arrInfo : (Tryd.prog.info? 34).map (·.size) = some 8 := by kernel_rfl
theorem Is8.info {arr : Array Value} {xs : List Int} (h : Is8 arr xs) : (Tryd.prog.info? 34).map (·.size) = some arr.size := by rw [h.size]; exact arrInfo

theorem Is8.ix {arr : Array Value} {xs : List Int} (h : Is8 arr xs) (k : Nat) (hk : k < 8) (w : World) :
    (Instr.index 34 (.agg arr) (.int .i64 (k : Int))).run Tryd.prog w = .ok (.int .i64 (xs.getD k 0)) w := by
  have h1 := h.at_ k hk
  have h2 : (sizeOf 3).run Tryd.prog w = .ok 1 w := by kernel_rfl
  have h3 : (0 : Int) ≤ k ∧ (k : Int) < ((8 : Nat) : Int) := by omega
  have h4 : (isAgg 3).run Tryd.prog w = .ok false w := by kernel_rfl
  unfold Instr.index
  simp only [asIntOf, Sem.run_bind, Sem.run_pure, Result.andThen_ok, run_underlying arrUnder, h2, Int.toNat_natCast, Nat.mul_one]
  rw [if_pos h3]
  simp [Go.part, Sem.run_bind, h4, h1]

theorem checkSamples_any (arr : Array Value) (xs : List Int) (w : World) (h : Is8 arr xs) :
    Calls Tryd.prog 27 #[.agg arr] w fun e w' => e = .returned (.int .i64 (rangesE xs (-32767) 32767)) ∧ Below w.heap.size w w' := by
  have hrd : RdI (w.alloc (.cells arr 34)) (some ⟨w.heap.size, 0, none⟩) 8 xs := by
    refine ⟨h.len, fun _ => ⟨_, rfl, by simp, fun j hj => ?_⟩⟩
    have hadd : (⟨w.heap.size, 0, none⟩ : Addr).add j = ⟨w.heap.size, j, none⟩ := by unfold Addr.add; split <;> simp_all
    rw [hadd, cell_of_row _ _ j arr _ (0, 0) (heap_alloc_new w _)]
    exact h.at_ j hj
  have H := Lib.hid h; clear h
  have HR := Lib.hid hrd; clear hrd
  go_enter Tryd.func27, Tryd.ntmps27
  go_wp2_with fail
  refine (checkSignal_any _ 8 8 xs _ HR.out (by omega)).mono ?_
  rintro e w' ⟨rfl, hb⟩
  go_wp2
  go_ret
  exact ⟨rfl, ((Below.refl _ _).alloc (Nat.le_refl _) _).trans (hb.mono (by simp))⟩

theorem bitsFor_any (arr : Array Value) (us : List Int) (k : Nat) (w : World) (h : Is8 arr us) (hs : Small us) (hk : k ≤ 17) :
    Calls Tryd.prog 69 #[.agg arr, .int .i64 k] w fun e w' => e = .returned (.int .i64 (bitsF us k)) ∧ Below w.heap.size w w' := by
  have H := Lib.hid h; clear h
  have HS := Lib.hid hs; clear hs
  go_enter Tryd.func69, Tryd.ntmps69
  go_wp2_with (with_reducible refine wpList_load_row rfl 34 (.tmp 2) rfl w.heap.size rfl 34 arr (0, 0) _ (heap_alloc_new w _) arrUnder rfl H.out.info ?_)
  go_loop [5, 9] (fun n i => ∃ j : Nat, j ≤ 8 ∧ i = .int .i64 j ∧ n = .int .i64 (bitsTo us k j)) (fun _ i => 8 - (intOf i).toNat)
  case atStart => exact ⟨0, Nat.zero_le _, rfl, by rw [bitsTo_zero]⟩
  case round =>
    obtain ⟨j, hj, rfl, rfl⟩ := hrel
    have hb := bitsTo_bd us k j HS.out hk (by rw [H.out.len]; exact hj)
    by_cases hlt : j < 8
    · have hst := bitsTo_step us k j (by rw [H.out.len]; exact hlt)
      obtain ⟨u, hu⟩ : ∃ u, us.getD j 0 = u := ⟨_, rfl⟩
      have hq := quo_bd _ k (HS.out j).1 (HS.out j).2
      have hu0 := (HS.out j).1
      have hix := H.out.ix j hlt
      rw [hu] at hst hq hix hu0
      clear hu
      obtain ⟨N, hN⟩ : ∃ N, bitsTo us k j = N := ⟨_, rfl⟩
      rw [hN] at hst hb ⊢
      have HST := Lib.hid hst
      clear hst hN
      go_wp2
      go_round
      case rel => exact ⟨j + 1, by omega, by go_num, by rw [HST.out]⟩
      case measure => simp [intOf]; omega
    · obtain rfl : j = 8 := by omega
      go_wp2
      go_ret
      exact ⟨rfl, (Below.refl _ _).alloc (Nat.le_refl _) _⟩

end Go.Proofs.YtjjflbnopphciabDoor

namespace Go.Proofs.YtjjflbnopphciabDoor

/-- Every number of the list has at most the size M. -/
def Bnd (xs : List Int) (M : Int) : Prop := ∀ j, -M ≤ xs.getD j 0 ∧ xs.getD j 0 ≤ M

def expT (xs : List Int) (i k : Nat) (f : Int) : Int := if k + 1 ≤ i then f * xs.getD (i - 1 - k) 0 else 0
def expd2 (xs : List Int) (i : Nat) (f0 f1 : Int) : Int := expT xs i 0 f0 + expT xs i 1 f1

theorem expT_bd (xs : List Int) (i k : Nat) (f M : Int) (h : Bnd xs M) (hM : 0 ≤ M) (h0 : -2 ≤ f) (h1 : f ≤ 2) : -(2 * M) ≤ expT xs i k f ∧ expT xs i k f ≤ 2 * M := by
  unfold expT
  split
  · have hb := h (i - 1 - k)
    generalize xs.getD (i - 1 - k) 0 = x at hb
    obtain rfl | rfl | rfl | rfl | rfl : f = -2 ∨ f = -1 ∨ f = 0 ∨ f = 1 ∨ f = 2 := by omega
    all_goals omega
  · omega

theorem mul_bd (f x M : Int) (hb : -M ≤ x ∧ x ≤ M) (hM : 0 ≤ M) (h0 : -2 ≤ f) (h1 : f ≤ 2) : -(2 * M) ≤ f * x ∧ f * x ≤ 2 * M := by
  obtain rfl | rfl | rfl | rfl | rfl : f = -2 ∨ f = -1 ∨ f = 0 ∨ f = 1 ∨ f = 2 := by omega
  all_goals omega

def pred0 (p : Nat) : Int := if p = 0 then 0 else if p = 1 then 1 else 2
def pred1 (p : Nat) : Int := if p = 0 then 0 else if p = 1 then 0 else -1
def expd (xs : List Int) (i p : Nat) : Int := expd2 xs i (pred0 p) (pred1 p)

theorem expd_bd (xs : List Int) (i p : Nat) (M : Int) (h : Bnd xs M) (hM : 0 ≤ M) : -(4 * M) ≤ expd xs i p ∧ expd xs i p ≤ 4 * M := by
  have h0 : -2 ≤ pred0 p ∧ pred0 p ≤ 2 := by unfold pred0; split <;> (try split) <;> omega
  have h1 : -2 ≤ pred1 p ∧ pred1 p ≤ 2 := by unfold pred1; split <;> (try split) <;> omega
  have a := expT_bd xs i 0 _ M h hM h0.1 h0.2
  have b := expT_bd xs i 1 _ M h hM h1.1 h1.2
  simp only [expd, expd2]
  omega

end Go.Proofs.YtjjflbnopphciabDoor

namespace Go.Proofs.YtjjflbnopphciabDoor
open Go.RowKit

theorem expected_core (arr : Array Value) (xs : List Int) (i p : Nat) (f0 f1 : Int) (M : Int) (w : World) (h : Is8 arr xs) (hb : Bnd xs M) (hM : 0 ≤ M) (hM2 : M ≤ 1000000000000) (hi : i < 8) (hp : p < 3)
    (h1 : 0 < w.heap.size) (g0 : -2 ≤ f0 ∧ f0 ≤ 2) (g1 : -2 ≤ f1 ∧ f1 ≤ 2) (hc0 : w.cell? ⟨0, p * 2, none⟩ = some (.int .i64 f0)) (hc1 : w.cell? ⟨0, p * 2 + 1, none⟩ = some (.int .i64 f1)) :
    Calls Tryd.prog 70 #[.agg arr, .int .i64 i, .int .i64 p] w fun e w' => e = .returned (.int .i64 (expd2 xs i f0 f1)) ∧ Below w.heap.size w w' := by
  have H := Lib.hid h; clear h
  have HB := Lib.hid hb; clear hb
  have c0 : (w.alloc (.cells arr 34)).cell? ⟨0, p * 2, none⟩ = some (.int .i64 f0) := by rw [World.cell?_alloc_lt w _ _ h1]; exact hc0
  have c1 : (w.alloc (.cells arr 34)).cell? ⟨0, p * 2 + 1, none⟩ = some (.int .i64 f1) := by rw [World.cell?_alloc_lt w _ _ h1]; exact hc1
  clear hc0 hc1
  have i0 : ∀ w, (Instr.index 114 (.agg #[.int .i64 f0, .int .i64 f1]) (.int .i64 0)).run Tryd.prog w = .ok (.int .i64 f0) w := fun _ => by kernel_rfl
  have i1 : ∀ w, (Instr.index 114 (.agg #[.int .i64 f0, .int .i64 f1]) (.int .i64 1)).run Tryd.prog w = .ok (.int .i64 f1) w := fun _ => by kernel_rfl
  go_enter Tryd.func70, Tryd.ntmps70
  go_wp2
  clear c0 c1
  go_loop [7, 14] (fun s k => (s = .int .i64 0 ∧ k = .int .i64 0) ∨ (s = .int .i64 (expT xs i 0 f0) ∧ k = .int .i64 1) ∨ (s = .int .i64 (expd2 xs i f0 f1) ∧ k = .int .i64 2)) (fun _ k => 2 - (intOf k).toNat)
  case atStart => exact .inl ⟨rfl, rfl⟩
  case round =>
    rcases hrel with ⟨rfl, rfl⟩ | ⟨rfl, rfl⟩ | ⟨rfl, rfl⟩
    · by_cases hge : 1 ≤ i
      · obtain ⟨q, rfl⟩ : ∃ q, i = q + 1 := ⟨i - 1, by omega⟩
        have hq := H.out.at_ q (by omega)
        have hxb := HB.out q
        obtain ⟨x, hx⟩ : ∃ x, xs.getD q 0 = x := ⟨_, rfl⟩
        have HX : Hid (expT xs (q + 1) 0 f0 = f0 * x) := by show expT xs (q + 1) 0 f0 = f0 * x; simp only [expT]; rw [if_pos (by omega), ← hx]; rfl
        rw [hx] at hq hxb
        clear hx
        have hcell : (w.alloc (.cells arr 34)).cell? ⟨w.heap.size, q, none⟩ = some (.int .i64 x) := by rw [cell_of_row _ _ q arr _ (0, 0) (heap_alloc_new w _)]; exact hq
        have hm := mul_bd f0 x M hxb hM g0.1 g0.2
        clear hq
        go_wp2
        go_round
        case rel => exact .inr (.inl ⟨by rw [HX.out], rfl⟩)
        case measure => simp [intOf]
      · obtain rfl : i = 0 := by omega
        have HX : Hid (expT xs 0 0 f0 = 0) := rfl
        go_wp2
        go_round
        case rel => exact .inr (.inl ⟨by rw [HX.out], rfl⟩)
        case measure => simp [intOf]
    · by_cases hge : 2 ≤ i
      · obtain ⟨q, rfl⟩ : ∃ q, i = q + 2 := ⟨i - 2, by omega⟩
        have hq := H.out.at_ q (by omega)
        have hxb := HB.out q
        obtain ⟨x, hx⟩ : ∃ x, xs.getD q 0 = x := ⟨_, rfl⟩
        have hs0 := expT_bd xs (q + 2) 0 f0 M HB.out hM g0.1 g0.2
        obtain ⟨s, hs⟩ : ∃ s, expT xs (q + 2) 0 f0 = s := ⟨_, rfl⟩
        have HX : Hid (expd2 xs (q + 2) f0 f1 = s + f1 * x) := by show expd2 xs (q + 2) f0 f1 = s + f1 * x; simp only [expd2, hs]; simp only [expT]; rw [if_pos (by omega), ← hx]; rfl
        rw [hs] at hs0 ⊢
        rw [hx] at hq hxb
        clear hx hs
        have hcell : (w.alloc (.cells arr 34)).cell? ⟨w.heap.size, q, none⟩ = some (.int .i64 x) := by rw [cell_of_row _ _ q arr _ (0, 0) (heap_alloc_new w _)]; exact hq
        have hm := mul_bd f1 x M hxb hM g1.1 g1.2
        clear hq
        go_wp2
        go_round
        case rel => exact .inr (.inr ⟨by rw [HX.out], rfl⟩)
        case measure => simp [intOf]
      · obtain ⟨s, hs⟩ : ∃ s, expT xs i 0 f0 = s := ⟨_, rfl⟩
        have HX : Hid (expd2 xs i f0 f1 = s) := by show expd2 xs i f0 f1 = s; simp only [expd2, hs]; simp only [expT]; rw [if_neg (by omega)]; omega
        rw [hs]
        clear hs
        go_wp2
        go_round
        case rel => exact .inr (.inr ⟨by rw [HX.out], rfl⟩)
        case measure => simp [intOf]
    · go_wp2
      go_ret
      exact ⟨rfl, (Below.refl _ _).alloc (Nat.le_refl _) _⟩

end Go.Proofs.YtjjflbnopphciabDoor

namespace Go.Proofs.YtjjflbnopphciabDoor

def fold1 (r : Int) : Int := if 0 ≤ r then 2 * r else -2 * r - 1
def foldeds (xs : List Int) (p : Nat) : List Int := (List.range 8).map fun i => fold1 (xs.getD i 0 - expd xs i p)

theorem foldeds_length (xs : List Int) (p : Nat) : (foldeds xs p).length = 8 := by simp [foldeds]
theorem foldeds_at (xs : List Int) (p i : Nat) (hi : i < 8) : (foldeds xs p).getD i 0 = fold1 (xs.getD i 0 - expd xs i p) := by
  simp [foldeds, hi]

/-- The first k of us, zeros behind them. -/
def upto (us : List Int) (k : Nat) : List Int := (List.range us.length).map fun i => if i < k then us.getD i 0 else 0

theorem upto_length (us : List Int) (k : Nat) : (upto us k).length = us.length := by simp [upto]
theorem upto_at (us : List Int) (k i : Nat) (hi : i < us.length) : (upto us k).getD i 0 = if i < k then us.getD i 0 else 0 := by
  simp [upto, hi]

theorem upto_step (us : List Int) (k : Nat) (hk : k < us.length) : upto us (k + 1) = (upto us k).set k (us.getD k 0) := by
  apply List.ext_getElem?
  intro i
  rcases Nat.lt_or_ge i us.length with hi | hi
  · simp only [upto, List.getElem?_set, List.getElem?_map, List.getElem?_range, hi, List.length_map, List.length_range, hk, Option.map_some]
    by_cases h : k = i
    · subst h; simp
    · rw [if_neg h]
      by_cases h2 : i < k
      · rw [if_pos h2, if_pos (by omega)]
      · rw [if_neg h2, if_neg (by omega)]
  · rw [List.getElem?_eq_none (by simpa [upto] using hi), List.getElem?_eq_none (by simpa [upto] using hi)]
theorem upto_all (us : List Int) : upto us us.length = us := by
  apply List.ext_getElem?
  intro i
  rcases Nat.lt_or_ge i us.length with hi | hi
  · simp [upto, hi]
  · rw [List.getElem?_eq_none (by simpa [upto] using hi), List.getElem?_eq_none hi]

end Go.Proofs.YtjjflbnopphciabDoor

namespace Go.Proofs.YtjjflbnopphciabDoor
open Go.RowKit

/-- Block g is just the cells cs of type t. -/
def Bk (w : World) (g : Nat) (t : TypeId) (cs : Array Value) : Prop := w.heap[g]? = some (.cells cs t (0, 0))
theorem Bk.heap {w : World} {g : Nat} {t : TypeId} {cs : Array Value} (h : Bk w g t cs) : w.heap[g]? = some (.cells cs t (0, 0)) := h
theorem Bk.lt {w : World} {g : Nat} {t : TypeId} {cs : Array Value} (h : Bk w g t cs) : g < w.heap.size := by
  rcases Nat.lt_or_ge g w.heap.size with h1 | h1
  · exact h1
  · unfold Bk at h; rw [Array.getElem?_eq_none h1] at h; cases h
theorem Bk.cell {w : World} {g : Nat} {t : TypeId} {cs : Array Value} (h : Bk w g t cs) (i : Nat) : w.cell? ⟨g, i, none⟩ = cs[i]? := cell_of_row w g i cs t (0, 0) h
theorem Bk.frozen {w : World} {g : Nat} {t : TypeId} {cs : Array Value} (h : Bk w g t cs) (i : Nat) : w.frozen? ⟨g, i, none⟩ = false := frozen_of_row w g i cs t h
theorem Bk.below {w w' : World} {g B : Nat} {t : TypeId} {cs : Array Value} (h : Bk w g t cs) (hb : Below B w w') (hg : g < B) : Bk w' g t cs := (hb.block g hg).trans h
theorem Bk.new (w : World) (t : TypeId) (cs : Array Value) : Bk (w.alloc (.cells cs t)) w.heap.size t cs := heap_alloc_new w _
theorem Bk.alloc {w : World} {g : Nat} {t : TypeId} {cs : Array Value} (h : Bk w g t cs) (o : Obj) : Bk (w.alloc o) g t cs := (Below.heap_alloc w o g h.lt).trans h
theorem Bk.set_ {w : World} {g : Nat} {t : TypeId} {cs : Array Value} (h : Bk w g t cs) (i : Nat) (v : Value) : Bk (w.setCell ⟨g, i, none⟩ v) g t (cs.setIfInBounds i v) := heap_setCell_same w g i cs t v h
theorem Bk.far {w : World} {g : Nat} {t : TypeId} {cs : Array Value} (h : Bk w g t cs) (p : Addr) (hp : g ≠ p.block) (v : Value) : Bk (w.setCell p v) g t cs := (heap_setCell_other w p g v hp).trans h
theorem Bk.drewN {w : World} {g : Nat} {t : TypeId} {cs : Array Value} (h : Bk w g t cs) (n : Nat) : Bk (w.drewN n) g t cs := h
theorem Bk.drew {w : World} {g : Nat} {t : TypeId} {cs : Array Value} (h : Bk w g t cs) : Bk w.drew g t cs := h

/-- The package's table of predictors is laid. -/
structure Laid (w : World) : Prop where
  lt : 0 < w.heap.size
  c0 : ∀ p, p < 3 → w.cell? ⟨0, p * 2, none⟩ = some (.int .i64 (pred0 p))
  c1 : ∀ p, p < 3 → w.cell? ⟨0, p * 2 + 1, none⟩ = some (.int .i64 (pred1 p))
theorem Laid.below {w w' : World} {B : Nat} (h : Laid w) (hb : Below B w w') (hB : 0 < B) : Laid w' :=
  ⟨Nat.lt_of_lt_of_le h.lt hb.size, fun p hp => (hb.cell hB).trans (h.c0 p hp), fun p hp => (hb.cell hB).trans (h.c1 p hp)⟩
theorem Laid.later {w w' : World} (h : Laid w) (hb : Below w.heap.size w w') : Laid w' := h.below hb h.lt

theorem Laid.drew {w : World} (h : Laid w) : Laid w.drew := ⟨h.lt, h.c0, h.c1⟩
theorem Laid.drewN {w : World} (h : Laid w) (n : Nat) : Laid (w.drewN n) := ⟨h.lt, h.c0, h.c1⟩

theorem expected_any (arr : Array Value) (xs : List Int) (i p : Nat) (M : Int) (w : World) (hw : Laid w) (h : Is8 arr xs) (hb : Bnd xs M) (hM : 0 ≤ M) (hM2 : M ≤ 1000000000000) (hi : i < 8) (hp : p < 3) :
    Calls Tryd.prog 70 #[.agg arr, .int .i64 i, .int .i64 p] w fun e w' => e = .returned (.int .i64 (expd xs i p)) ∧ Below w.heap.size w w' :=
  expected_core arr xs i p _ _ M w h hb hM hM2 hi hp hw.lt (by unfold pred0; split <;> (try split) <;> omega) (by unfold pred1; split <;> (try split) <;> omega) (hw.c0 p hp) (hw.c1 p hp)

theorem Is8.lit {arr : Array Value} {xs : List Int} (h : Is8 arr xs) : arr = #[.int .i64 (xs.getD 0 0), .int .i64 (xs.getD 1 0), .int .i64 (xs.getD 2 0), .int .i64 (xs.getD 3 0), .int .i64 (xs.getD 4 0), .int .i64 (xs.getD 5 0), .int .i64 (xs.getD 6 0), .int .i64 (xs.getD 7 0)] := by
  apply Array.ext_getElem?
  intro j
  rcases Nat.lt_or_ge j 8 with hj | hj
  · rw [h.at_ j hj]
    match j, hj with
    | 0, _ => rfl
    | 1, _ => rfl
    | 2, _ => rfl
    | 3, _ => rfl
    | 4, _ => rfl
    | 5, _ => rfl
    | 6, _ => rfl
    | 7, _ => rfl
  · rw [Array.getElem?_eq_none (by rw [h.size]; exact hj), Array.getElem?_eq_none (by simpa using hj)]

theorem Is8.set_ {arr : Array Value} {xs : List Int} (h : Is8 arr xs) (k : Nat) (v : Int) : Is8 (arr.setIfInBounds k (.int .i64 v)) (xs.set k v) := by
  refine ⟨by simp [h.size], by simp [h.len], fun j hj => ?_⟩
  rw [Array.getElem?_setIfInBounds]
  by_cases hkj : k = j
  · subst hkj
    simp [h.size, hj, List.getD_eq_getElem?_getD, h.len]
  · rw [if_neg hkj, h.at_ j hj]
    simp [List.getD_eq_getElem?_getD, List.getElem?_set, hkj]
theorem Is8.one {arr : Array Value} {xs : List Int} (h : Is8 arr xs) : arr.all (·.oneCell') = true := by
  rw [h.lit]; simp [Value.oneCell']

abbrev zero8 : Array Value := #[.int .i64 0, .int .i64 0, .int .i64 0, .int .i64 0, .int .i64 0, .int .i64 0, .int .i64 0, .int .i64 0]
theorem Is8.zsize {arr : Array Value} {xs : List Int} (h : Is8 arr xs) : zero8.size = arr.size := by rw [h.size]; rfl
theorem zero8_is (xs : List Int) (p : Nat) : Is8 zero8 (upto (foldeds xs p) 0) := by
  refine ⟨rfl, by rw [upto_length, foldeds_length], fun j hj => ?_⟩
  rw [upto_at _ _ _ (by rw [foldeds_length]; exact hj), if_neg (by omega)]
  match j, hj with
  | 0, _ => rfl
  | 1, _ => rfl
  | 2, _ => rfl
  | 3, _ => rfl
  | 4, _ => rfl
  | 5, _ => rfl
  | 6, _ => rfl
  | 7, _ => rfl

set_option maxRecDepth 100000 in
theorem foldedOf_any (arr : Array Value) (xs : List Int) (p : Nat) (w : World) (hw : Laid w) (h : Is8 arr xs) (hb : Bnd xs 32767) (hp : p < 3) :
    Calls Tryd.prog 50 #[.agg arr, .int .i64 p] w fun e w' => ∃ us, e = .returned (.agg us) ∧ Is8 us (foldeds xs p) ∧ Below w.heap.size w w' := by
  have HW := Lib.hid hw; clear hw
  have H := Lib.hid h; clear h
  have HB := Lib.hid hb; clear hb
  go_enter Tryd.func50, Tryd.ntmps50
  go_wp2
  go_loopw [8] (fun i wr => ∃ (k : Nat) (cur : Array Value), k ≤ 8 ∧ i = .int .i64 k ∧ Hid (Bk wr w.heap.size 34 arr) ∧ Hid (Bk wr (w.heap.size + 1 + 1) 34 cur) ∧ Hid (Is8 cur (upto (foldeds xs p) k)) ∧ Hid (Below w.heap.size w wr) ∧ Hid (∃ z, Bk wr (w.heap.size + 1) 34 z ∧ z.size = 8) ∧ w.heap.size + 1 + 1 < wr.heap.size) (fun i _ => 8 - (intOf i).toNat)
  case atStart =>
    refine ⟨0, zero8, Nat.zero_le _, rfl, ((Bk.new _ _ _).alloc _).alloc _, ?_, ?_, ((((Below.refl _ _).alloc (Nat.le_refl _) _).alloc (by simp) _).alloc (by simp; omega) _), ⟨zero8, ?_, rfl⟩, by simp⟩
    · exact (by simpa using Bk.new ((w.alloc (.cells arr 34)).alloc (.cells zero8 34)) 34 zero8 : Bk (((w.alloc (.cells arr 34)).alloc (.cells zero8 34)).alloc (.cells zero8 34)) (w.heap.size + 1 + 1) 34 zero8)
    · exact zero8_is xs p
    · exact (by simpa using (Bk.new (w.alloc (.cells arr 34)) 34 zero8).alloc (.cells zero8 34) : Bk (((w.alloc (.cells arr 34)).alloc (.cells zero8 34)).alloc (.cells zero8 34)) (w.heap.size + 1) 34 zero8)
  case round =>
    obtain ⟨k, cur, hk, rfl, hx, hc, hcur, hbw, hz, hsz⟩ := hrel
    by_cases hlt : k < 8
    · obtain ⟨x, hxk⟩ : ∃ x, xs.getD k 0 = x := ⟨_, rfl⟩
      have hcell : wr.cell? ⟨w.heap.size, k, none⟩ = some (.int .i64 x) := by rw [hx.out.cell, H.out.at_ k hlt, hxk]
      have HXK := Lib.hid hxk
      clear hxk
      have hwr : Hid (Laid wr) := HW.out.later hbw.out
      obtain ⟨a0, a1, a2, a3, a4, a5, a6, a7, harr⟩ : ∃ a0 a1 a2 a3 a4 a5 a6 a7 : Int, arr = #[.int .i64 a0, .int .i64 a1, .int .i64 a2, .int .i64 a3, .int .i64 a4, .int .i64 a5, .int .i64 a6, .int .i64 a7] := ⟨_, _, _, _, _, _, _, _, H.out.lit⟩
      have c0 : wr.cell? ⟨w.heap.size, 0, none⟩ = some (.int .i64 a0) := by rw [hx.out.cell, harr]; rfl
      have c1 : wr.cell? ⟨w.heap.size, 1, none⟩ = some (.int .i64 a1) := by rw [hx.out.cell, harr]; rfl
      have c2 : wr.cell? ⟨w.heap.size, 2, none⟩ = some (.int .i64 a2) := by rw [hx.out.cell, harr]; rfl
      have c3 : wr.cell? ⟨w.heap.size, 3, none⟩ = some (.int .i64 a3) := by rw [hx.out.cell, harr]; rfl
      have c4 : wr.cell? ⟨w.heap.size, 4, none⟩ = some (.int .i64 a4) := by rw [hx.out.cell, harr]; rfl
      have c5 : wr.cell? ⟨w.heap.size, 5, none⟩ = some (.int .i64 a5) := by rw [hx.out.cell, harr]; rfl
      have c6 : wr.cell? ⟨w.heap.size, 6, none⟩ = some (.int .i64 a6) := by rw [hx.out.cell, harr]; rfl
      have c7 : wr.cell? ⟨w.heap.size, 7, none⟩ = some (.int .i64 a7) := by rw [hx.out.cell, harr]; rfl
      have H8 : Hid (Is8 #[.int .i64 a0, .int .i64 a1, .int .i64 a2, .int .i64 a3, .int .i64 a4, .int .i64 a5, .int .i64 a6, .int .i64 a7] xs) := by show Is8 _ _; rw [← harr]; exact H.out
      have hblk : w.heap.size < wr.heap.size := by omega
      clear harr
      obtain ⟨E, hE⟩ : ∃ E, expd xs k p = E := ⟨_, rfl⟩
      have hEb := expd_bd xs k p 32767 HB.out (by omega)
      rw [hE] at hEb
      have hxb := HB.out k
      rw [HXK.out] at hxb
      have C : Hid (∀ W, Laid W → Calls Tryd.prog 70 #[.agg #[.int .i64 a0, .int .i64 a1, .int .i64 a2, .int .i64 a3, .int .i64 a4, .int .i64 a5, .int .i64 a6, .int .i64 a7], .int .i64 k, .int .i64 p] W fun e w' => e = .returned (.int .i64 E) ∧ Below W.heap.size W w') :=
        fun W hW => by rw [← hE]; exact expected_any _ xs k p 32767 W hW H8.out HB.out (by omega) (by omega) hlt hp
      have HE := Lib.hid hE
      clear hE
      go_wp2_with fail
      go_region_held3 (fun w' => w'.cell? ⟨w.heap.size, k, none⟩ = some (.int .i64 x) ∧ w'.cell? ⟨w.heap.size, 0, none⟩ = some (.int .i64 a0) ∧ w'.cell? ⟨w.heap.size, 1, none⟩ = some (.int .i64 a1) ∧ w'.cell? ⟨w.heap.size, 2, none⟩ = some (.int .i64 a2) ∧ w'.cell? ⟨w.heap.size, 3, none⟩ = some (.int .i64 a3) ∧ w'.cell? ⟨w.heap.size, 4, none⟩ = some (.int .i64 a4) ∧ w'.cell? ⟨w.heap.size, 5, none⟩ = some (.int .i64 a5) ∧ w'.cell? ⟨w.heap.size, 6, none⟩ = some (.int .i64 a6) ∧ w'.cell? ⟨w.heap.size, 7, none⟩ = some (.int .i64 a7))
        (first | go_keep | (go_split_ands; refine ⟨?_, ?_, ?_, ?_, ?_, ?_, ?_, ?_, ?_⟩ <;> (rw [hb.cell (by simpa using hblk)]; assumption)))
        (first | (go_at_call 70; refine (C.out _ hwr.out.drew).mono ?_; rintro e w' ⟨rfl, hb⟩))
      have hwrap : IntKind.i64.wrap (x - E) = x - E := IntWalk.i64_in _ (by omega)
      rw [hwrap]
      clear hwrap
      have hf8 := foldeds_at xs p k hlt
      rw [HXK.out, HE.out] at hf8
      obtain ⟨r, hr⟩ : ∃ r, x - E = r := ⟨_, rfl⟩
      rw [hr] at hf8 ⊢
      have hrb : -200000 ≤ r ∧ r ≤ 200000 := by omega
      have HF8 := Lib.hid hf8
      clear hf8 hr hEb hxb c0 c1 c2 c3 c4 c5 c6 c7 hcell
      have hc' : Hid (Bk w' (w.heap.size + 1 + 1) 34 cur) := (hc.out.drew).below hb (by simpa using hsz)
      have hx' : Hid (Bk w' w.heap.size 34 arr) := (hx.out.drew).below hb (by simpa using hblk)
      obtain ⟨z, hz1, hz2⟩ := hz.out
      have hz' : Hid (∃ z, Bk w' (w.heap.size + 1) 34 z ∧ z.size = 8) := ⟨z, (hz1.drew).below hb (by simp; omega), hz2⟩
      have hb' : Hid (Below w.heap.size w w') := (hbw.out.drew).trans (hb.mono (by simp; omega))
      have hsz' : w.heap.size + 1 + 1 < w'.heap.size := Nat.lt_of_lt_of_le hsz (by simpa using hb.size)
      clear hb hz1 hz2 hz hx hc hbw
      have hold : w'.cell? ⟨w.heap.size + 1 + 1, k, none⟩ = some (.int .i64 ((upto (foldeds xs p) k).getD k 0)) := by rw [hc'.out.cell]; exact hcur.out.at_ k hlt
      have hfr : w'.frozen? ⟨w.heap.size + 1 + 1, k, none⟩ = false := hc'.out.frozen k
      obtain ⟨o, ho⟩ : ∃ o, (upto (foldeds xs p) k).getD k 0 = o := ⟨_, rfl⟩
      rw [ho] at hold
      clear ho
      have fin : ∀ v, v = fold1 r → (Bk (w'.setCell ⟨w.heap.size + 1 + 1, k, none⟩ (.int .i64 v)) (w.heap.size + 1 + 1) 34 (cur.setIfInBounds k (.int .i64 v)) ∧ Is8 (cur.setIfInBounds k (.int .i64 v)) (upto (foldeds xs p) (k + 1))) := by
        intro v hv
        refine ⟨hc'.out.set_ _ _, ?_⟩
        rw [upto_step _ _ (by rw [foldeds_length]; exact hlt), HF8.out, ← hv]
        exact hcur.out.set_ k v
      have FIN := Lib.hid fin
      clear fin
      by_cases hr0 : 0 ≤ r
      · have h1 : ¬ (2 * r < -2 * r - 1) := by omega
        go_wp2
        go_roundw
        case rel =>
          obtain ⟨f1, f2⟩ := FIN.out (2 * r) (by unfold fold1; rw [if_pos hr0])
          obtain ⟨z, hz1, hz2⟩ := hz'.out
          exact ⟨k + 1, _, by omega, by go_num, hx'.out.far _ (by simp; omega) _, f1, f2, hb'.out.setCell (by simp; omega) _, ⟨z, hz1.far _ (by simp) _, hz2⟩, by simpa [World.setCell] using hsz'⟩
        case measure => simp [intOf]; omega
      · have h1 : (2 * r < -2 * r - 1) := by omega
        go_wp2
        go_roundw
        case rel =>
          obtain ⟨f1, f2⟩ := FIN.out (-2 * r - 1) (by unfold fold1; rw [if_neg hr0])
          obtain ⟨z, hz1, hz2⟩ := hz'.out
          exact ⟨k + 1, _, by omega, by go_num, hx'.out.far _ (by simp; omega) _, f1, f2, hb'.out.setCell (by simp; omega) _, ⟨z, hz1.far _ (by simp) _, hz2⟩, by simpa [World.setCell] using hsz'⟩
        case measure => simp [intOf]; omega
    · obtain rfl : k = 8 := by omega
      obtain ⟨z, hz1, hz2⟩ := hz.out
      have HZ := Lib.hid hz1
      have HZ2 := Lib.hid hz2
      clear hz1 hz2 hz
      go_wp2_with (first
        | (with_reducible refine wpList_load_row rfl 34 (.tmp 5) rfl (w.heap.size + 1 + 1) rfl 34 cur (0, 0) _ hc.out.heap arrUnder rfl hcur.out.info ?_)
        | (with_reducible refine wpList_store_row rfl 34 (.tmp 4) (.tmp 28) rfl (w.heap.size + 1) cur rfl rfl 34 z HZ.out.heap hcur.out.info (by rw [HZ2.out, hcur.out.size]) hcur.out.one ?_))
      have hg : Bk (wr.setRow (w.heap.size + 1) cur) (w.heap.size + 1) 34 cur := setRow_heap _ _ _ _ _ _ HZ.out
      refine bodyPost_ret (v := .agg cur) ?_ rfl ⟨cur, rfl, ?_, below_setRow hbw.out (by omega) _⟩
      · exact results_cell_row (fn := Tryd.f50) rfl _ _ (w.heap.size + 1) 34 cur (0, 0) _ rfl hg arrUnder rfl hcur.out.info
      have e := hcur.out
      have e2 := upto_all (foldeds xs p)
      rw [foldeds_length] at e2
      rw [e2] at e
      exact e

end Go.Proofs.YtjjflbnopphciabDoor

namespace Go.Proofs.YtjjflbnopphciabDoor

theorem fold1_bd (r : Int) (h0 : -163835 ≤ r) (h1 : r ≤ 163835) : 0 ≤ fold1 r ∧ fold1 r ≤ 1000000 := by
  unfold fold1
  split <;> omega

theorem foldeds_small (xs : List Int) (p : Nat) (h : Bnd xs 32767) : Small (foldeds xs p) := by
  intro j
  rcases Nat.lt_or_ge j 8 with hj | hj
  · rw [foldeds_at xs p j hj]
    have a := h j
    have b := expd_bd xs j p 32767 h (by omega)
    exact fold1_bd _ (by omega) (by omega)
  · have e : (foldeds xs p).getD j 0 = 0 := by
      rw [List.getD_eq_getElem?_getD, List.getElem?_eq_none (by rw [foldeds_length]; exact hj)]
      rfl
    rw [e]; omega

def stepS (xs : List Int) (s : Nat × Nat × Int) (p k : Nat) : Nat × Nat × Int :=
  if bitsF (foldeds xs p) k < s.2.2 then (p, k, bitsF (foldeds xs p) k) else s
def innerS (xs : List Int) (s : Nat × Nat × Int) (p : Nat) : Nat → Nat × Nat × Int
  | 0 => s
  | k + 1 => stepS xs (innerS xs s p k) p k
def outerS (xs : List Int) (s : Nat × Nat × Int) : Nat → Nat × Nat × Int
  | 0 => s
  | p + 1 => innerS xs (outerS xs s p) p 18
def startS (xs : List Int) : Nat × Nat × Int := (0, 0, bitsF (foldeds xs 0) 0)
def shortS (xs : List Int) : Nat × Nat × Int := outerS xs (startS xs) 3

/-- What every state of the search is. -/
def GoodS (xs : List Int) (s : Nat × Nat × Int) : Prop := s.1 < 3 ∧ s.2.1 < 18 ∧ s.2.2 = bitsF (foldeds xs s.1) s.2.1

theorem GoodS.start (xs : List Int) : GoodS xs (startS xs) := ⟨by simp [startS], by simp [startS], rfl⟩
theorem GoodS.step {xs : List Int} {s : Nat × Nat × Int} (h : GoodS xs s) (p k : Nat) (hp : p < 3) (hk : k < 18) : GoodS xs (stepS xs s p k) := by
  unfold stepS
  split
  · exact ⟨hp, hk, rfl⟩
  · exact h
theorem GoodS.inner {xs : List Int} {s : Nat × Nat × Int} (h : GoodS xs s) (p : Nat) (hp : p < 3) (k : Nat) (hk : k ≤ 18) : GoodS xs (innerS xs s p k) := by
  induction k with
  | zero => exact h
  | succ k ih => exact (ih (by omega)).step p k hp (by omega)
theorem GoodS.outer {xs : List Int} {s : Nat × Nat × Int} (h : GoodS xs s) (p : Nat) (hp : p ≤ 3) : GoodS xs (outerS xs s p) := by
  induction p with
  | zero => exact h
  | succ p ih => exact (ih (by omega)).inner p (by omega) 18 (by omega)
theorem shortS_good (xs : List Int) : GoodS xs (shortS xs) := (GoodS.start xs).outer 3 (by omega)
theorem GoodS.bd {xs : List Int} {s : Nat × Nat × Int} (h : GoodS xs s) (hb : Bnd xs 32767) : 7 ≤ s.2.2 ∧ s.2.2 ≤ 9000000 := by
  have := bitsTo_bd (foldeds xs s.1) s.2.1 8 (foldeds_small xs _ hb) (by have := h.2.1; omega) (by rw [foldeds_length]; omega)
  rw [h.2.2]
  unfold bitsF
  omega
theorem bitsF_bd (xs : List Int) (p k : Nat) (hb : Bnd xs 32767) (hk : k < 18) : 7 ≤ bitsF (foldeds xs p) k ∧ bitsF (foldeds xs p) k ≤ 9000000 := by
  have := bitsTo_bd (foldeds xs p) k 8 (foldeds_small xs _ hb) (by omega) (by rw [foldeds_length]; omega)
  unfold bitsF
  omega

end Go.Proofs.YtjjflbnopphciabDoor

namespace Go.Proofs.YtjjflbnopphciabDoor
open Go.RowKit

theorem foldedOf_zero (arr : Array Value) (xs : List Int) (w : World) (hw : Laid w) (h : Is8 arr xs) (hb : Bnd xs 32767) :
    Calls Tryd.prog 50 #[.agg arr, .int .i64 0] w fun e w' => ∃ us, e = .returned (.agg us) ∧ Is8 us (foldeds xs 0) ∧ Below w.heap.size w w' :=
  foldedOf_any arr xs 0 w hw h hb (by omega)
theorem bitsFor_zero (arr : Array Value) (us : List Int) (w : World) (h : Is8 arr us) (hs : Small us) :
    Calls Tryd.prog 69 #[.agg arr, .int .i64 0] w fun e w' => e = .returned (.int .i64 (bitsF us 0)) ∧ Below w.heap.size w w' :=
  bitsFor_any arr us 0 w h hs (by omega)

set_option maxRecDepth 100000 in
set_option maxHeartbeats 1000000 in
theorem shortest_any (arr : Array Value) (xs : List Int) (w : World) (hw : Laid w) (h : Is8 arr xs) (hb : Bnd xs 32767) :
    Calls Tryd.prog 48 #[.agg arr] w fun e w' => e = .returned (.tuple #[.int .i64 ((shortS xs).1 : Nat), .int .i64 ((shortS xs).2.1 : Nat)]) ∧ Below w.heap.size w w' := by
  have HW := Lib.hid hw; clear hw
  have H := Lib.hid h; clear h
  have HB := Lib.hid hb; clear hb
  have w1 : Hid (Below w.heap.size w (w.alloc (.cells arr 34))) := (Below.refl _ _).alloc (Nat.le_refl _) _
  have l1 : Hid (Laid (w.alloc (.cells arr 34))) := HW.out.later w1.out
  have HS := Lib.hid (foldeds_small xs 0 HB.out)
  go_enter Tryd.func48, Tryd.ntmps48
  go_wp2_with (first
    | (with_reducible refine wpList_load_row rfl 34 (.tmp 1) rfl w.heap.size rfl 34 arr (0, 0) _ (heap_alloc_new w _) arrUnder rfl H.out.info ?_)
    | (go_at_call 50; refine (foldedOf_zero arr xs _ l1.out H.out HB.out).mono ?_; rintro e w2 ⟨us, rfl, hus, hb2⟩; have HUS := Lib.hid hus; clear hus; have HB2 := Lib.hid hb2; clear hb2)
    | (go_at_call 69; refine (bitsFor_zero us _ _ HUS.out HS.out).mono ?_; rintro e w3 ⟨rfl, hb3⟩; have HB3 := Lib.hid hb3; clear hb3))
  have hB3 : Hid (Below (w.heap.size + 1) (w.alloc (.cells arr 34)) w3) := (HB2.out.mono (by simp)).trans (HB3.out.mono (by have := HB2.out.size; simpa using this))
  have hx3 : Hid (Bk w3 w.heap.size 34 arr) := (Bk.new w _ _).below hB3.out (by omega)
  have hbw3 : Hid (Below w.heap.size w w3) := w1.out.trans (hB3.out.mono (by omega))
  have hsz3 : w.heap.size < w3.heap.size := hx3.out.lt
  clear HB2 HB3 hB3
  go_loopw [2, 3, 4, 12] (fun a b l i wr => ∃ p : Nat, p ≤ 3 ∧ i = .int .i64 p ∧ a = .int .i64 ((outerS xs (startS xs) p).1 : Nat) ∧ b = .int .i64 ((outerS xs (startS xs) p).2.1 : Nat) ∧ l = .int .i64 (outerS xs (startS xs) p).2.2 ∧ Hid (Bk wr w.heap.size 34 arr) ∧ Hid (Below w.heap.size w wr)) (fun _ _ _ i _ => 3 - (intOf i).toNat)
  case atStart => exact ⟨0, by omega, rfl, rfl, rfl, rfl, hx3, hbw3⟩
  case round =>
    obtain ⟨p, hp, rfl, rfl, rfl, rfl, hx, hbw⟩ := hrel
    by_cases hlt : p < 3
    · have hgood := (GoodS.start xs).outer p (by omega)
      obtain ⟨s, hs⟩ : ∃ s, outerS xs (startS xs) p = s := ⟨_, rfl⟩
      have hnext : Hid (outerS xs (startS xs) (p + 1) = innerS xs s p 18) := by show outerS xs (startS xs) (p + 1) = _; rw [← hs]; rfl
      rw [hs] at hgood ⊢
      clear hs
      have HG := Lib.hid hgood; clear hgood
      have lw : Hid (Laid wr) := HW.out.later hbw.out
      have hszr : w.heap.size < wr.heap.size := hx.out.lt
      have HSp := Lib.hid (foldeds_small xs p HB.out)
      go_wp2_with (first
        | (with_reducible refine wpList_load_row rfl 34 (.tmp 1) rfl w.heap.size rfl 34 arr (0, 0) _ hx.out.heap arrUnder rfl H.out.info ?_)
        | (go_at_call 50; refine (foldedOf_any arr xs p _ lw.out H.out HB.out hlt).mono ?_; rintro e w4 ⟨vs, rfl, hvs, hb4⟩; have HVS := Lib.hid hvs; clear hvs; have HB4 := Lib.hid hb4; clear hb4)
        | (with_reducible refine wpList_store_row rfl 34 (.tmp 6) (.tmp 17) rfl w4.heap.size vs rfl rfl 34 zero8 (heap_alloc_new w4 _) HVS.out.info HVS.out.zsize HVS.out.one ?_))
      obtain ⟨w5, hw5⟩ : ∃ w5, World.setRow (w4.alloc (.cells #[.int .i64 0, .int .i64 0, .int .i64 0, .int .i64 0, .int .i64 0, .int .i64 0, .int .i64 0, .int .i64 0] 34)) w4.heap.size vs = w5 := ⟨_, rfl⟩
      have hF : Hid (Bk w5 w4.heap.size 34 vs) := by show Bk _ _ _ _; rw [← hw5]; exact setRow_heap _ _ _ _ _ _ (heap_alloc_new w4 _)
      have hb5 : Below w4.heap.size w4 w5 := by rw [← hw5]; exact below_setRow ((Below.refl _ _).alloc (Nat.le_refl _) _) (Nat.le_refl _) _
      have hb45 : Below wr.heap.size wr w5 := HB4.out.trans (hb5.mono HB4.out.size)
      have hx5 : Hid (Bk w5 w.heap.size 34 arr) := hx.out.below hb45 hszr
      have hbw5 : Hid (Below w.heap.size w w5) := hbw.out.trans (hb45.mono (by omega))
      have hlt5 : w.heap.size < w4.heap.size := Nat.lt_of_lt_of_le hszr HB4.out.size
      rw [hw5]
      clear hw5 HB4 hb5 hb45
      go_loopw [2, 3, 4, 18] (fun a b l i wr => ∃ k : Nat, k ≤ 18 ∧ i = .int .i64 k ∧ a = .int .i64 ((innerS xs s p k).1 : Nat) ∧ b = .int .i64 ((innerS xs s p k).2.1 : Nat) ∧ l = .int .i64 (innerS xs s p k).2.2 ∧ Hid (Bk wr w.heap.size 34 arr) ∧ Hid (Bk wr w4.heap.size 34 vs) ∧ Hid (Below w.heap.size w wr)) (fun _ _ _ i _ => 18 - (intOf i).toNat)
      case atStart => exact ⟨0, by omega, rfl, rfl, rfl, rfl, hx5, hF, hbw5⟩
      case round =>
        clear hx hbw lw hszr hx5 hF hbw5
        obtain ⟨k, hk, rfl, rfl, rfl, rfl, hx, hF, hbw⟩ := hrel
        by_cases hlk : k < 18
        · have hgood := HG.out.inner p hlt k (by omega)
          obtain ⟨t, ht⟩ : ∃ t, innerS xs s p k = t := ⟨_, rfl⟩
          have hnx : Hid (innerS xs s p (k + 1) = stepS xs t p k) := by show innerS xs s p (k + 1) = _; rw [← ht]; rfl
          rw [ht] at hgood ⊢
          clear ht
          have hbd := bitsF_bd xs p k HB.out hlk
          obtain ⟨n, hn⟩ : ∃ n, bitsF (foldeds xs p) k = n := ⟨_, rfl⟩
          rw [hn] at hbd
          have C : Hid (∀ W, Calls Tryd.prog 69 #[.agg vs, .int .i64 k] W fun e w' => e = .returned (.int .i64 n) ∧ Below W.heap.size W w') := fun W => by rw [← hn]; exact bitsFor_any vs _ k W HVS.out HSp.out (by omega)
          have HN := Lib.hid hn
          clear hn
          have hFl := hF.out.lt
          have hxl := hx.out.lt
          by_cases hless : n < t.2.2
          · go_wp2_with (first
              | (with_reducible refine wpList_load_row rfl 34 (.tmp 6) rfl w4.heap.size rfl 34 vs (0, 0) _ hF.out.heap arrUnder rfl HVS.out.info ?_)
              | (go_at_call 69; refine (C.out _).mono ?_; rintro e w6 ⟨rfl, hb6⟩; have HB6 := Lib.hid hb6; clear hb6))
            go_roundw
            case rel =>
              have e : stepS xs t p k = (p, k, n) := by unfold stepS; rw [HN.out, if_pos hless]
              exact ⟨k + 1, by omega, by go_num, by rw [hnx.out, e], by rw [hnx.out, e], by rw [hnx.out, e], hx.out.below HB6.out hxl, hF.out.below HB6.out hFl, hbw.out.trans (HB6.out.mono (by omega))⟩
            case measure => simp [intOf]; omega
          · go_wp2_with (first
              | (with_reducible refine wpList_load_row rfl 34 (.tmp 6) rfl w4.heap.size rfl 34 vs (0, 0) _ hF.out.heap arrUnder rfl HVS.out.info ?_)
              | (go_at_call 69; refine (C.out _).mono ?_; rintro e w6 ⟨rfl, hb6⟩; have HB6 := Lib.hid hb6; clear hb6))
            go_roundw
            case rel =>
              have e : stepS xs t p k = t := by unfold stepS; rw [HN.out, if_neg (by omega)]
              exact ⟨k + 1, by omega, by go_num, by rw [hnx.out, e], by rw [hnx.out, e], by rw [hnx.out, e], hx.out.below HB6.out hxl, hF.out.below HB6.out hFl, hbw.out.trans (HB6.out.mono (by omega))⟩
            case measure => simp [intOf]; omega
        · obtain rfl : k = 18 := by omega
          go_wp2
          go_roundw
          case rel => exact ⟨p + 1, by omega, by go_num, by rw [hnext.out], by rw [hnext.out], by rw [hnext.out], hx, hbw⟩
          case measure => simp [intOf]; omega
    · obtain rfl : p = 3 := by omega
      go_wp2
      go_ret2
      exact ⟨rfl, hbw.out⟩

end Go.Proofs.YtjjflbnopphciabDoor

namespace Go.Proofs.YtjjflbnopphciabDoor
open Go

/-- n times x, and then z, c in all. -/
def repL {α : Type} (x z : α) (c n : Nat) : List α := List.replicate n x ++ List.replicate (c - n) z

theorem repL_length {α : Type} (x z : α) (c n : Nat) (h : n ≤ c) : (repL x z c n).length = c := by simp [repL]; omega
theorem repL_at {α : Type} (x z : α) (c n j : Nat) (v : α) (hj : (List.replicate n x)[j]? = some v) : (repL x z c n)[j]? = some v := by
  unfold repL
  rw [List.getElem?_append_left]
  · exact hj
  · have := (List.getElem?_eq_some_iff.1 hj).1
    exact this
theorem repL_splice {α : Type} (x z : α) (c n k : Nat) (h : n + k ≤ c) : splice (repL x z c n) n (List.replicate k x) = repL x z c (n + k) := by
  unfold splice repL
  rw [List.take_append_of_le_length (by simp), List.take_of_length_le (by simp), List.drop_append]
  simp only [List.length_replicate, List.drop_replicate]
  rw [← List.append_assoc, List.replicate_append_replicate, show n - (n + k) = 0 by omega, show c - n - (n + k - n) = c - (n + k) by omega]
  simp
theorem repL_all {α : Type} (x z : α) (c : Nat) : repL x z c c = List.replicate c x := by simp [repL]

end Go.Proofs.YtjjflbnopphciabDoor

namespace Go.Proofs.YtjjflbnopphciabDoor
open Go.RowKit

theorem u64_and_nat (a b : Nat) (ha : a < 18446744073709551616) (hb : b < 18446744073709551616) : bits BinOp.and IntKind.u64 (a : Int) (b : Int) = ((a &&& b : Nat) : Int) := by
  have hx : a &&& b < 2 ^ 64 := Nat.and_lt_two_pow _ (by omega)
  show IntKind.u64.wrap ((BitVec.ofInt 64 (a : Int) &&& BitVec.ofInt 64 (b : Int)).toNat : Int) = _
  have e (n : Nat) (h : n < 18446744073709551616) : (BitVec.ofInt 64 (n : Int)).toNat = n := by
    rw [BitVec.ofInt_natCast, BitVec.toNat_ofNat]; exact Nat.mod_eq_of_lt (by omega)
  rw [BitVec.toNat_and, e a ha, e b hb]
  show ((a &&& b : Nat) : Int) % 18446744073709551616 = _
  omega

theorem mask_and (c : Nat) (hc : c ≤ 1000000) : bits BinOp.and IntKind.u64 (c : Int) 4294967295 = (c : Int) := by
  have h := u64_and_nat c 4294967295 (by omega) (by omega)
  have e : c &&& 4294967295 = c := by
    rw [show (4294967295 : Nat) = 2 ^ 32 - 1 from rfl, Nat.and_two_pow_sub_one_eq_mod]
    exact Nat.mod_eq_of_lt (by omega)
  rw [e] at h
  exact h
theorem mask_one : bits BinOp.and IntKind.u64 1 4294967295 = 1 := by decide +kernel

set_option maxRecDepth 100000 in
theorem mul_one_any (c : Nat) (hc : c ≤ 1000000) (w : World) :
    Calls Tryd.prog 71 #[.int .u64 1, .int .u64 c] w fun e w' => e = .returned (.tuple #[.int .u64 0, .int .u64 c]) ∧ w = w' := by
  have m1 := mask_one
  have m2 := mask_and c hc
  have m3 : bits BinOp.and IntKind.u64 0 4294967295 = 0 := by decide +kernel
  have m4 : IntKind.u64.wrap 0 = 0 := by decide +kernel
  have hq : (c : Int) / 4294967296 = 0 := by omega
  go_enter Tryd.func71, Tryd.ntmps71
  go_wp2
  go_ret2
  exact ⟨rfl, rfl⟩

theorem step_if {c : Prop} [Decidable c] {X E : Prop} (hc : c) (h : X) : if c then X else E := by rw [if_pos hc]; exact h

theorem wp_copy_splice {P : Program} {o : Oper} {a : Act} {w : World} {K : Act → World → Prop} {Q : Exit → Act → World → Prop} (hgd : o.guard = none) (d s : Operand) (dT sT : TypeId)
    (ho : o.op = .call { callee := .builtin .copy, args := #[d, s], argTypes := #[dT, sT] }) (elem : TypeId) (hu : P.underlying dT = some (.slice elem)) (hsz : (P.info? elem).map (·.size) = some 1)
    (dp sp : Option Addr) (dLen dCap sLen sCap : Nat) (hd : a.eval d = .slice dp dLen dCap) (hs : a.eval s = .slice sp sLen sCap)
    (g off : Nat) (cur : List Value) (t : TypeId) (hg : w.heap[g]? = some (.cells cur.toArray t (0, 0))) (cs : List Value) (hn : cs.length = Nat.min sLen dLen)
    (hpos : 0 < cs.length → dp = some ⟨g, off, none⟩ ∧ ∃ ad, sp = some ad ∧ ∀ j v, cs[j]? = some v → w.cell? (ad.add j) = some v)
    (hfit : off + cs.length ≤ cur.length) (h1 : ∀ v ∈ cs, v.oneCell' = true) (B : Nat) (w0 : World) (hb : Below B w0 w) (hBg : B ≤ g)
    (h : ∀ w', Hid (w'.heap[g]? = some (.cells (splice cur off cs).toArray t (0, 0))) → Below B w0 w' → K (a.put o.dst (goInt cs.length)) w') : Oper.wp P o a w K Q := by
  have e := step_copy_splice (ops := #[]) (E := True) (Q := Q) hgd d s dT sT ho elem hu hsz dp sp dLen dCap sLen sCap hd hs g off cur t hg cs hn hpos hfit h1 B w0 hb hBg h
  rw [if_pos (by simp [Region.wanted, hgd])] at e
  exact e

theorem intSize : (Tryd.prog.info? 3).map (·.size) = some 1 := by kernel_rfl

/-- n ones, then zeros, c in all. -/
def rowR (c n : Nat) : List Value := repL (Value.int .i64 1) (Value.int .i64 0) c n
def arrR (c n : Nat) : Array Value := (rowR c n).toArray

theorem make_row (c : Nat) (hc : c ≤ 1000000) (W : World) :
    (Instr.makeSlice 31 (.int .i64 (c : Int)) (.int .i64 (c : Int))).run Tryd.prog W = .ok (.slice (some ⟨W.heap.size, 0, none⟩) c c) (W.alloc (.cells (arrR c 0) 3)) := by
  obtain ⟨i0, hi, hz0, hz1, hz2⟩ := info_parts intInfo
  have hr := run_make (P := Tryd.prog) W 31 3 i0 _ intsUnder hi hz0 .i64 .i64 c c (by omega) (by omega) (by rw [hz2]; omega) (by omega)
  rw [hr]
  have e : madeCells (Value.cells (.int .i64 0)) ((c : Int).toNat * i0.size) = arrR c 0 := by
    rw [hz1]
    apply Array.ext'
    have := toList_madeCells_one (Value.int .i64 0) c
    simp only [Int.toNat_natCast, Nat.mul_one]
    show (madeCells #[Value.int .i64 0] c).toList = _
    rw [this]
    simp [arrR, rowR, repL]
  rw [e]
  simp

set_option maxRecDepth 100000 in
set_option maxHeartbeats 1000000 in
theorem repeat_any (b c : Nat) (w : World) (hc : c ≤ 1000000) (h1 : w.cell? ⟨b, 0, none⟩ = some (.int .i64 1)) :
    Calls Tryd.prog 51 #[.slice (some ⟨b, 0, none⟩) 1 1, .int .i64 c] w fun e w' => e = .returned (.slice (some ⟨w.heap.size, 0, none⟩) c c) ∧ Bk w' w.heap.size 3 (List.replicate c (Value.int .i64 1)).toArray ∧ Below w.heap.size w w' := by
  have H1 := Lib.hid h1; clear h1
  have hmk := make_row c hc
  have hbn : b < w.heap.size := by have := block_lt_of_cell H1.out; exact this
  obtain ⟨cs, hcs⟩ : ∃ cs : List Value, cs = if c = 0 then [] else [Value.int .i64 1] := ⟨_, rfl⟩
  have hmin : Nat.min 1 c = if c = 0 then 0 else 1 := by
    show min 1 c = _
    split <;> omega
  have hcl : cs.length = Nat.min 1 c := by rw [hcs, hmin]; split <;> simp
  have hg0 : Hid ((w.alloc (.cells (arrR c 0) 3)).heap[w.heap.size]? = some (.cells (rowR c 0).toArray 3 (0, 0))) := heap_alloc_new w _
  have hsp : Hid (splice (rowR c 0) 0 cs = rowR c cs.length) := by
    show splice (rowR c 0) 0 cs = rowR c cs.length
    rw [hcs]; unfold rowR
    split
    · simp [splice]
    · exact repL_splice (Value.int .i64 1) (Value.int .i64 0) c 0 1 (by omega)
  have hpos : Hid (0 < cs.length → ∀ j v, cs[j]? = some v → (w.alloc (.cells (arrR c 0) 3)).cell? ((⟨b, 0, none⟩ : Addr).add j) = some v) := by
    intro hp j v hv
    have e : cs = [Value.int .i64 1] := by rw [hcs]; rw [if_neg (by rintro rfl; simp [hcs] at hp)]
    rw [e] at hv
    match j, hv with
    | 0, hv =>
      simp at hv
      subst hv
      show (w.alloc _).cell? ⟨b, 0, none⟩ = _
      rw [World.cell?_alloc_lt w _ _ hbn]
      exact H1.out
  have hone : Hid (∀ v ∈ cs, v.oneCell' = true) := by
    intro v hv; rw [hcs] at hv; split at hv
    · simp at hv
    · simp at hv; subst hv; rfl
  have hfit : Hid (0 + cs.length ≤ (rowR c 0).length) := by
    show 0 + cs.length ≤ (rowR c 0).length
    unfold rowR; rw [repL_length _ _ _ _ (by omega), hcl, hmin]; split <;> omega
  have hcl' := Lib.hid hcl
  obtain ⟨m, hm⟩ : ∃ m, cs.length = m := ⟨_, rfl⟩
  have hmc : m ≤ c ∧ (c = 0 ∨ 1 ≤ m) := by rw [← hm, hcl, hmin]; split <;> omega
  have HM := Lib.hid hm
  clear hcl hcs hm hmin
  go_enter Tryd.func51, Tryd.ntmps51
  go_wp2_with (first
    | (go_at_call 71; refine (mul_one_any c hc _).mono ?_; rintro e w' ⟨rfl, rfl⟩)
    | (with_reducible refine wpList_copy_splice rfl (.tmp 31) (.tmp 32) 31 31 rfl 3 intsUnder intSize (some ⟨w.heap.size, 0, none⟩) (some ⟨b, 0, none⟩) c c 1 1 rfl rfl w.heap.size 0 (rowR c 0) 3 hg0.out cs hcl'.out (fun hp => ⟨rfl, _, rfl, hpos.out hp⟩) hfit.out hone.out w.heap.size w ((Below.refl _ _).alloc (Nat.le_refl _) _) (Nat.le_refl _) ?_; intro w2 hg2 hb2))
  have hgm : Hid (Bk w2 w.heap.size 3 (rowR c m).toArray) := by
    have := hg2.out
    rw [hsp.out, HM.out] at this
    exact this
  clear hg2 hg0 hpos hone hfit hcl' hsp H1
  rw [HM.out]
  clear HM
  go_loopw [8] (fun i wr => ∃ n : Nat, n ≤ c ∧ (c = 0 ∨ 1 ≤ n) ∧ i = .int .i64 n ∧ Hid (Bk wr w.heap.size 3 (rowR c n).toArray) ∧ Hid (Below w.heap.size w wr)) (fun i _ => c - (intOf i).toNat)
  case atStart => exact ⟨m, hmc.1, hmc.2, rfl, hgm, hb2⟩
  case round =>
    clear hgm hb2 hmc
    obtain ⟨n, hn, h1, rfl, hg, hb⟩ := hrel
    by_cases hlt : n < c
    · have hn1 : 1 ≤ n := by omega
      have hne : ¬ c = n := by omega
      obtain ⟨k, hk⟩ : ∃ k, k = Nat.min n (c - n) := ⟨_, rfl⟩
      have hk2 : Nat.min n (c - n) = min n (c - n) := rfl
      have hkb : 1 ≤ k ∧ n + k ≤ c ∧ k ≤ n := by rw [hk, hk2]; omega
      have HK := Lib.hid hk
      clear hk hk2
      obtain ⟨cs, hcs⟩ : ∃ cs : List Value, cs = List.replicate k (Value.int .i64 1) := ⟨_, rfl⟩
      have hcl : Hid (cs.length = Nat.min n (c - n)) := by show cs.length = _; rw [hcs, List.length_replicate]; exact HK.out
      have hck : Hid (cs.length = k) := by show cs.length = _; rw [hcs, List.length_replicate]
      have hone : Hid (∀ v ∈ cs, v.oneCell' = true) := by
        intro v hv; rw [hcs] at hv; have := List.eq_of_mem_replicate hv; subst this; rfl
      have hfit : Hid (n + cs.length ≤ (rowR c n).length) := by
        show n + cs.length ≤ _
        rw [hck.out]; unfold rowR; rw [repL_length _ _ _ _ hn]; omega
      have hsrc : Hid (∀ j v, cs[j]? = some v → wr.drew.cell? ((⟨w.heap.size, 0, none⟩ : Addr).add j) = some v) := by
        intro j v hv
        have hadd : (⟨w.heap.size, 0, none⟩ : Addr).add j = ⟨w.heap.size, j, none⟩ := by unfold Addr.add; split <;> simp_all
        rw [hadd, hg.out.drew.cell]
        have hj : j < k := by have := (List.getElem?_eq_some_iff.1 hv).1; rw [hck.out] at this; exact this
        have e : (List.replicate n (Value.int .i64 1))[j]? = some v := by
          rw [hcs] at hv
          rw [List.getElem?_replicate] at hv ⊢
          rw [if_pos hj] at hv
          rw [if_pos (by omega)]
          exact hv
        simpa [rowR] using repL_at _ (Value.int .i64 0) c n j v e
      have hsp : Hid (splice (rowR c n) n cs = rowR c (n + k)) := by
        show splice (rowR c n) n cs = _
        rw [hcs]; unfold rowR; exact repL_splice _ _ c n k hkb.2.1
      clear hcs
      go_wp2_with fail
      go_region_law ((simp only [List.getElem_toArray, List.getElem_cons_succ, List.getElem_cons_zero, Act.put, List.setIfInBounds_toArray, List.set_cons_zero, List.set_cons_succ]); (refine step_if (by rfl) ?_); (refine wp_copy_splice rfl (.tmp 41) (.tmp 44) 31 31 rfl 3 intsUnder intSize (some ⟨w.heap.size, n, none⟩) (some ⟨w.heap.size, 0, none⟩) (c - n) (c - n) n c (by rfl) (by rfl) w.heap.size n (rowR c n) 3 hg.out.drew.heap cs hcl.out (fun _ => ⟨rfl, _, rfl, hsrc.out⟩) hfit.out hone.out w.heap.size w (hb.out.drew) (Nat.le_refl _) ?_); intro w4 hg4 hb4)
      all_goals
        have hg5 : Hid (Bk w4 w.heap.size 3 (rowR c (n + k)).toArray) := by
          have := hg4.out
          rw [hsp.out] at this
          exact this
        have HK2 := hck.out
        rw [HK2]
        clear HK2 hg4
        have hwrap : IntKind.i64.wrap ((n : Int) + k) = (n : Int) + k := IntWalk.i64_in _ (by omega)
        simp only [List.getElem_toArray, List.getElem_cons_succ, List.getElem_cons_zero, Act.put, List.setIfInBounds_toArray, List.set_cons_zero, List.set_cons_succ, goInt, hwrap]
        clear hwrap
        go_wp2
        go_roundw
        case rel => exact ⟨n + k, by omega, by omega, by go_num, hg5, hb4⟩
        case measure => simp [intOf]; omega
    · obtain rfl : n = c := by omega
      go_wp2
      go_ret
      refine ⟨rfl, ?_, hb.out⟩
      have := hg.out
      unfold rowR at this
      rw [repL_all] at this
      exact this

end Go.Proofs.YtjjflbnopphciabDoor

namespace Go.Proofs.YtjjflbnopphciabDoor

/-- The code of a number with the parameter k. -/
def codeU (u k : Nat) : List Int := List.replicate (u / 2 ^ k) 1 ++ (0 :: bitsOf u k)
theorem codeU_length (u k : Nat) : (codeU u k).length = u / 2 ^ k + 1 + k := by simp [codeU, bitsOf_length]; omega

def codesTo (us : List Int) (k : Nat) : Nat → List Int
  | 0 => []
  | i + 1 => codesTo us k i ++ codeU (us.getD i 0).toNat k
def headB (p k : Nat) : List Int := bitsOf p 2 ++ bitsOf k 5
def packW (us : List Int) (p k i : Nat) : List Int := headB p k ++ codesTo us k i
def packT (xs : List Int) : List Int := packW (foldeds xs (shortS xs).1) (shortS xs).1 (shortS xs).2.1 8

theorem headB_length (p k : Nat) : (headB p k).length = 7 := by simp [headB, bitsOf_length]
theorem codesTo_length (us : List Int) (k i : Nat) (hs : Small us) (hi : i ≤ us.length) : ((codesTo us k i).length : Int) + 7 = bitsTo us k i := by
  induction i with
  | zero => simp [codesTo, bitsTo_zero]
  | succ i ih =>
    rw [bitsTo_step us k i (by omega), ← ih (by omega)]
    simp only [codesTo, List.length_append, codeU_length]
    have h0 := (hs i).1
    obtain ⟨u, hu⟩ := Int.eq_ofNat_of_zero_le h0
    rw [hu]
    simp
    omega
theorem packW_length (us : List Int) (p k i : Nat) (hs : Small us) (hi : i ≤ us.length) : ((packW us p k i).length : Int) = bitsTo us k i := by
  rw [← codesTo_length us k i hs hi, packW, List.length_append, headB_length]
  omega

end Go.Proofs.YtjjflbnopphciabDoor

namespace Go.Proofs.YtjjflbnopphciabDoor
open Go.RowKit

theorem rangeE_zero (x lo hi : Int) : rangeE x lo hi = 0 ↔ lo ≤ x ∧ x ≤ hi := by
  unfold rangeE inB
  by_cases h : lo ≤ x <;> by_cases h2 : x ≤ hi <;> simp [h, h2]
theorem rangesE_nil (lo hi : Int) : rangesE [] lo hi = 0 := rfl
theorem rangesE_cons (x : Int) (xs : List Int) (lo hi : Int) : rangesE (x :: xs) lo hi = if rangeE x lo hi = 0 then rangesE xs lo hi else rangeE x lo hi := rfl
theorem rangesE_zero (xs : List Int) (lo hi : Int) : rangesE xs lo hi = 0 ↔ ∀ x ∈ xs, lo ≤ x ∧ x ≤ hi := by
  induction xs with
  | nil => simp [rangesE_nil]
  | cons x xs ih =>
    rw [rangesE_cons]
    by_cases h : rangeE x lo hi = 0
    · rw [if_pos h, ih]
      have := (rangeE_zero x lo hi).1 h
      simp [this]
    · rw [if_neg h]
      have h2 : ¬ (lo ≤ x ∧ x ≤ hi) := fun e => h ((rangeE_zero x lo hi).2 e)
      constructor
      · intro e; exact absurd e h
      · intro e; exact absurd (e x (by simp)) h2
theorem rangesE_cases (xs : List Int) (lo hi : Int) : rangesE xs lo hi = 0 ∨ rangesE xs lo hi = 2 := by
  induction xs with
  | nil => exact .inl rfl
  | cons x xs ih =>
    rw [rangesE_cons]
    split
    · exact ih
    · right
      unfold rangeE at *
      split <;> simp_all
theorem bnd_of_rangesE (xs : List Int) (h : rangesE xs (-32767) 32767 = 0) : Bnd xs 32767 := by
  intro j
  have := (rangesE_zero xs _ _).1 h
  rcases Nat.lt_or_ge j xs.length with hj | hj
  · have e : xs.getD j 0 = xs[j] := by simp [List.getD_eq_getElem?_getD, hj]
    rw [e]
    exact this _ (List.getElem_mem hj)
  · have e : xs.getD j 0 = 0 := by rw [List.getD_eq_getElem?_getD, List.getElem?_eq_none hj]; rfl
    rw [e]; omega

theorem packed_err (arr : Array Value) (xs : List Int) (w : World) (h : Is8 arr xs) (he : rangesE xs (-32767) 32767 ≠ 0) :
    Calls Tryd.prog 18 #[.agg arr] w fun e w' => e = .returned (.tuple #[.slice none 0 0, .int .i64 2]) ∧ Below w.heap.size w w' := by
  have H := Lib.hid h; clear h
  have h2 : rangesE xs (-32767) 32767 = 2 := (rangesE_cases xs _ _).resolve_left he
  have C : Hid (∀ W, Calls Tryd.prog 27 #[.agg arr] W fun e w' => e = .returned (.int .i64 2) ∧ Below W.heap.size W w') := fun W => by rw [← h2]; exact checkSamples_any arr xs W H.out
  clear h2 he
  go_enter Tryd.func18, Tryd.ntmps18
  go_wp2_with (first
    | (with_reducible refine wpList_load_row rfl 34 (.tmp 1) rfl w.heap.size rfl 34 arr (0, 0) _ (heap_alloc_new w _) arrUnder rfl H.out.info ?_)
    | (go_at_call 27; refine (C.out _).mono ?_; rintro e w2 ⟨rfl, hb2⟩; have HB2 := Lib.hid hb2; clear hb2))
  go_ret2
  exact ⟨rfl, ((Below.refl _ _).alloc (Nat.le_refl _) _).trans (HB2.out.mono (by simp))⟩

theorem own_later {w w' : World} {base : Nat} {e : TypeId} {sz n : Nat} {v : Value} {xs : List Value} (h : w.ownsRow base e sz v n xs) (hb : Below w.heap.size w w') : w'.ownsRow base e sz v n xs :=
  h.kept (row := none) ⟨hb.os, hb.tape, hb.output, hb.size, fun i hi _ => hb.block i hi⟩ (by cases h2 : v.ownBlock with | none => exact .inl rfl | some g => exact .inr (by simp))

theorem own_base {w : World} {base base' : Nat} {e : TypeId} {sz n : Nat} {v : Value} {xs : List Value} (h : w.ownsRow base e sz v n xs) (hb : base' ≤ base) : w.ownsRow base' e sz v n xs := by
  unfold World.ownsRow at h ⊢
  refine ⟨h.1, ?_⟩
  rcases h.2 with h1 | ⟨g, cap, cur, h2, h3, h4⟩
  · exact .inl h1
  · exact .inr ⟨g, cap, cur, h2, by omega, h4⟩

theorem appendBits_two (base : Nat) (m : Nat) (w : World) (hb : base ≤ w.heap.size) (hm : m < 1000001) :
    Calls Tryd.prog 49 #[.slice none 0 0, .int .i64 m, .int .i64 2] w fun e w' => ∃ v', e = .returned v' ∧ w'.ownsRow base 3 1 v' 2 ((bitsOf m 2).map (Value.int .i64)) ∧ Below base w w' := by
  have h := appendBits_any base (.slice none 0 0) 0 [] m 2 w (World.ownsRow_nil _ _ _ _) hb hm (by omega) (by omega)
  simpa using h
theorem appendBits_five (base : Nat) (v : Value) (n : Nat) (xs : List Int) (m : Nat) (w : World) (hown : w.ownsRow base 3 1 v n (xs.map (Value.int .i64))) (hb : base ≤ w.heap.size) (hm : m < 1000001) (hn : n ≤ 10000000) :
    Calls Tryd.prog 49 #[v, .int .i64 m, .int .i64 5] w fun e w' => ∃ v', e = .returned v' ∧ w'.ownsRow base 3 1 v' (n + 5) ((xs ++ bitsOf m 5).map (Value.int .i64)) ∧ Below base w w' :=
  appendBits_any base v n xs m 5 w hown hb hm (by omega) hn

set_option maxRecDepth 100000 in
set_option maxHeartbeats 2000000 in
theorem packed_ok (arr : Array Value) (xs : List Int) (w : World) (hw : Laid w) (h : Is8 arr xs) (he : rangesE xs (-32767) 32767 = 0) :
    Calls Tryd.prog 18 #[.agg arr] w fun e w' => ∃ v, e = .returned (.tuple #[v, .int .i64 0]) ∧ w'.ownsRow w.heap.size 3 1 v (packT xs).length ((packT xs).map (Value.int .i64)) ∧ Below w.heap.size w w' := by
  have H := Lib.hid h; clear h
  have HW := Lib.hid hw; clear hw
  have HB := Lib.hid (bnd_of_rangesE xs he)
  have C : Hid (∀ W, Calls Tryd.prog 27 #[.agg arr] W fun e w' => e = .returned (.int .i64 0) ∧ Below W.heap.size W w') := fun W => by rw [← he]; exact checkSamples_any arr xs W H.out
  clear he
  have hgood := shortS_good xs
  obtain ⟨p, hp⟩ : ∃ p, (shortS xs).1 = p := ⟨_, rfl⟩
  obtain ⟨k, hk⟩ : ∃ k, (shortS xs).2.1 = k := ⟨_, rfl⟩
  have hp3 : p < 3 := by rw [← hp]; exact hgood.1
  have hk18 : k < 18 := by rw [← hk]; exact hgood.2.1
  have CS : Hid (∀ W, Laid W → Calls Tryd.prog 48 #[.agg arr] W fun e w' => e = .returned (.tuple #[.int .i64 (p : Int), .int .i64 (k : Int)]) ∧ Below W.heap.size W w') := fun W hW => by rw [← hp, ← hk]; exact shortest_any arr xs W hW H.out HB.out
  have hP : Hid (packT xs = packW (foldeds xs p) p k 8) := by show packT xs = _; rw [packT, hp, hk]
  clear hgood hp hk
  have w1 : Hid (Below w.heap.size w (w.alloc (.cells arr 34))) := (Below.refl _ _).alloc (Nat.le_refl _) _
  have x1 : Hid (Bk (w.alloc (.cells arr 34)) w.heap.size 34 arr) := Bk.new _ _ _
  go_enter Tryd.func18, Tryd.ntmps18
  go_wp2_with (first
    | (with_reducible refine wpList_load_row rfl 34 (.tmp 1) rfl w.heap.size rfl 34 arr (0, 0) _ x1.out.heap arrUnder rfl H.out.info ?_)
    | (with_reducible refine wpList_load_row rfl 34 (.tmp 1) rfl w.heap.size rfl 34 arr (0, 0) _ x2.out.heap arrUnder rfl H.out.info ?_)
    | (go_at_call 27; refine (C.out _).mono ?_; rintro e w2 ⟨rfl, hb2⟩; have l2 : Hid (Below w.heap.size w w2) := w1.out.trans (hb2.mono (by simp)); have x2 : Hid (Bk w2 w.heap.size 34 arr) := x1.out.below hb2 (by simp); clear hb2)
    | (go_at_call 48; refine (CS.out _ (HW.out.later l2.out)).mono ?_; rintro e w3 ⟨rfl, hb3⟩; have l3 : Hid (Below w.heap.size w w3) := l2.out.trans (hb3.mono l2.out.size); have x3 : Hid (Bk w3 w.heap.size 34 arr) := x2.out.below hb3 x2.out.lt; clear hb3))
  refine (appendBits_two (w.heap.size + 1) p _ x3.out.lt (by omega)).mono ?_
  rintro e w4 ⟨v4, rfl, ho4, hb4⟩
  have o4 := Lib.hid ho4
  have l4 : Hid (Below w.heap.size w w4) := l3.out.trans (hb4.mono (by omega))
  have x4 : Hid (Bk w4 w.heap.size 34 arr) := x3.out.below hb4 (by omega)
  clear hb4 ho4
  go_wp2_with fail
  refine (appendBits_five (w.heap.size + 1) v4 2 _ k _ o4.out x4.out.lt (by omega) (by omega)).mono ?_
  rintro e w5 ⟨v5, rfl, ho5, hb5⟩
  have o5 := Lib.hid ho5
  have l5 : Hid (Below w.heap.size w w5) := l4.out.trans (hb5.mono (by omega))
  have x5 : Hid (Bk w5 w.heap.size 34 arr) := x4.out.below hb5 (by omega)
  clear hb5 ho5
  go_wp2_with (first
    | (with_reducible refine wpList_load_row rfl 34 (.tmp 1) rfl w.heap.size rfl 34 arr (0, 0) _ x5.out.heap arrUnder rfl H.out.info ?_)
    | (go_at_call 50; refine (foldedOf_any arr xs p _ (HW.out.later l5.out) H.out HB.out hp3).mono ?_; rintro e w6 ⟨us, rfl, hus, hb6⟩; have HUS := Lib.hid hus; have l6 : Hid (Below w.heap.size w w6) := l5.out.trans (hb6.mono l5.out.size); have b56 := Lib.hid hb6; clear hus hb6))
  have HL8 : Hid ((foldeds xs p).length = 8) := foldeds_length xs p
  obtain ⟨L, hL⟩ : ∃ L, foldeds xs p = L := ⟨_, rfl⟩
  have HSm : Hid (Small L) := by show Small L; rw [← hL]; exact foldeds_small xs p HB.out
  rw [hL] at HUS hP HL8
  clear hL
  have o6 : Hid (w6.ownsRow (w.heap.size + 1) 3 1 v5 (packW L p k 0).length ((packW L p k 0).map (Value.int .i64))) := by
    have := own_later o5.out b56.out
    show w6.ownsRow _ _ _ _ _ _
    have e : packW L p k 0 = bitsOf p 2 ++ bitsOf k 5 := by simp [packW, headB, codesTo]
    have e2 : (packW L p k 0).length = 2 + 5 := by rw [e]; simp [bitsOf_length]
    rw [e2, e]
    exact this
  have hs6 : w.heap.size < w6.heap.size := Nat.lt_of_lt_of_le x5.out.lt b56.out.size
  clear o5 b56 o4 l4 x4 l5 x5 l2 x2 l3 x3 w1 x1 C CS
  obtain ⟨i0, hi, hz0, hz1, hz2⟩ := info_parts intInfo
  go_loopw [7, 28] (fun v i wr => ∃ j : Nat, j ≤ 8 ∧ i = .int .i64 j ∧ Hid (wr.ownsRow (w.heap.size + 1) 3 1 v (packW L p k j).length ((packW L p k j).map (Value.int .i64))) ∧ Hid (Below w.heap.size w wr) ∧ w.heap.size < wr.heap.size) (fun _ i _ => 8 - (intOf i).toNat)
  case atStart => exact ⟨0, by omega, rfl, o6, l6, hs6⟩
  case round =>
    clear o6 l6 hs6
    obtain ⟨j, hj, rfl, ho, hl, hs⟩ := hrel
    by_cases hlt : j < 8
    · have hsm := HSm.out j
      obtain ⟨u, hu⟩ := Int.eq_ofNat_of_zero_le hsm.1
      have hix := HUS.out.ix j hlt
      rw [hu] at hsm hix
      have hu1 : u ≤ 1000000 := by omega
      have hlen := packW_length L p k j HSm.out (by rw [HL8.out]; exact hj)
      have hbd := bitsTo_bd L k j HSm.out (by omega) (by rw [HL8.out]; exact hj)
      have hn1 : (packW L p k j).length ≤ 8500000 := by omega
      have HU := Lib.hid hu
      clear hu hlen hbd hsm
      obtain ⟨n, hn⟩ : ∃ n, (packW L p k j).length = n := ⟨_, rfl⟩
      obtain ⟨ys, hys⟩ : ∃ ys, packW L p k j = ys := ⟨_, rfl⟩
      have hnext : Hid (packW L p k (j + 1) = ys ++ codeU u k) := by
        show packW L p k (j + 1) = _
        rw [← hys, packW, packW, codesTo, HU.out, List.append_assoc]
        rfl
      rw [hn] at hn1 ho
      rw [hys] at ho hn
      clear hys
      have HN := Lib.hid hn
      clear hn
      obtain ⟨q, hq⟩ : ∃ q : Nat, ((u : Int) / 2 ^ k) = q := ⟨u / 2 ^ k, by simp⟩
      have hq1 : q ≤ 1000000 := by have := quo_bd u k (by omega) (by omega); omega
      have HQ : Hid (u / 2 ^ k = q) := by
        show u / 2 ^ k = q
        have : ((u / 2 ^ k : Nat) : Int) = q := by rw [← hq]; simp
        omega
      go_wp2_with fail
      clear hq hix
      refine (repeat_any wr.heap.size q _ hq1 (by simp [go_sem])).mono ?_
      rintro e w7 ⟨rfl, hB7, hb7⟩
      have o7 : Hid (w7.ownsRow (w.heap.size + 1) 3 1 u7 n (ys.map (Value.int .i64))) := own_later (ho.out.alloc _) hb7
      have l7 : Hid (Below w.heap.size w w7) := (hl.out.alloc (by omega) _).trans (hb7.mono (by simp; omega))
      have hs7 : wr.heap.size + 1 < w7.heap.size := by have := hB7.lt; simpa using this
      have hB7' : Hid (Bk w7 (wr.heap.size + 1) 3 (List.replicate q (Value.int .i64 1)).toArray) := by
        have e := World.size_alloc wr (.cells #[.int .i64 1] 3)
        rw [e] at hB7
        exact hB7
      have src7 : Hid (∀ jj v, (List.replicate q (Value.int .i64 1))[jj]? = some v → w7.cell? ((⟨wr.heap.size + 1, 0, none⟩ : Addr).add jj) = some v) := by
        intro jj v hv
        have hadd : (⟨wr.heap.size + 1, 0, none⟩ : Addr).add jj = ⟨wr.heap.size + 1, jj, none⟩ := by unfold Addr.add; split <;> simp_all
        rw [hadd, hB7'.out.cell, List.getElem?_toArray]
        exact hv
      have one7 : Hid (∀ v ∈ List.replicate q (Value.int .i64 1), v.oneCell' = true) := by
        intro v hv; have := List.eq_of_mem_replicate hv; subst this; rfl
      have len7 : Hid ((List.replicate q (Value.int .i64 1)).length = q * 1) := by show _ = _; simp
      clear hB7 hb7 ho hl
      obtain ⟨news, hnews⟩ : ∃ news, List.replicate q (Value.int .i64 1) = news := ⟨_, rfl⟩
      rw [hnews] at src7 one7 len7
      have HNEWS := Lib.hid hnews
      clear hnews
      go_wp2_with (first
        | (at_builtin; refine wpList_append_own _ rfl (.tmp 31) (.tmp 36) 31 rfl (w.heap.size + 1) 3 i0 (.int .i64 0) 1 8 intsUnder hi hz0 hz1 hz2 rfl (by decide) _ _ _ rfl o7.out ⟨wr.heap.size + 1, 0, none⟩ q q news rfl len7.out src7.out one7.out (by unfold maxLen; omega) (by omega) (by omega) ?_; intro v8 w8 ho8 hg8 _; have o8 := Lib.hid ho8; have l8 : Hid (Below (w.heap.size + 1) w7 w8) := (Below.refl _ _).grown hg8 (by omega) (fun g hg => (o7.out.lt g hg).1); clear ho8 hg8)
        | (at_builtin; refine wpList_append_own _ rfl (.tmp 38) (.tmp 39) 31 rfl (w.heap.size + 1) 3 i0 (.int .i64 0) 1 8 intsUnder hi hz0 hz1 hz2 rfl (by decide) _ _ _ rfl (o8.out.alloc _) ⟨w8.heap.size, 0, none⟩ 1 1 [.int .i64 0] rfl rfl ?c1 ?c2 ?c3 ?c4 ?c5 ?_))
      case c1 =>
        intro q u hq
        match q, hq with
        | 0, hq => simp at hq; subst hq; simp [Addr.add]
      case c2 => intro u hu; simp at hu; subst hu; rfl
      case c3 => unfold maxLen; omega
      case c4 => omega
      case c5 => have := l8.out.size; simp; omega
      intro v9 w9 ho9 hg9 _
      have hs8 : w.heap.size + 1 ≤ w8.heap.size := by have := l8.out.size; omega
      have l9 : Hid (Below (w.heap.size + 1) w7 w9) := (l8.out.alloc hs8 _).grown hg9 (by simp; omega) (fun g hg => (o8.out.lt g hg).1)
      have o9 : Hid (w9.ownsRow (w.heap.size + 1) 3 1 v9 (n + q + 1) ((ys ++ (List.replicate q 1 ++ [0])).map (Value.int .i64))) := by
        have e : (ys ++ (List.replicate q 1 ++ [0])).map (Value.int .i64) = ys.map (Value.int .i64) ++ (news ++ [Value.int .i64 0]) := by
          rw [← HNEWS.out]; simp
        rw [e]
        show w9.ownsRow _ _ _ _ _ _
        simpa using ho9
      clear ho9 hg9 o8 l8
      go_wp2_with fail
      refine (appendBits_any (w.heap.size + 1) v9 (n + q + 1) _ u k w9 o9.out (by have := l9.out.size; omega) (by omega) (by omega) (by omega)).mono ?_
      rintro e w10 ⟨v10, rfl, ho10, hb10⟩
      have o10 := Lib.hid ho10
      have l10 : Hid (Below w.heap.size w w10) := l7.out.trans ((l9.out.trans hb10).mono (by omega))
      have hs10 : w.heap.size < w10.heap.size := by have := l9.out.size; have := hb10.size; omega
      clear ho10 hb10
      go_wp2
      go_roundw
      case rel =>
        refine ⟨j + 1, by omega, by go_num, ?_, l10, hs10⟩
        have := o10.out
        have e : ys ++ (List.replicate q 1 ++ [0]) ++ bitsOf u k = ys ++ codeU u k := by simp [codeU, HQ.out]
        have e3 : (codeU u k).length = q + 1 + k := by rw [codeU_length, HQ.out]
        have e4 : ys.length = n := HN.out
        have e2 : n + q + 1 + k = (ys ++ codeU u k).length := by rw [List.length_append, e3, e4]; omega
        show w10.ownsRow _ _ _ _ _ _
        rw [hnext.out, ← e2, ← e]
        exact this
      case measure => simp [intOf]; omega
    · obtain rfl : j = 8 := by omega
      go_wp2
      go_ret2
      refine ⟨_, rfl, ?_, hl.out⟩
      rw [hP.out]
      exact own_base (ho.out) (by omega)

end Go.Proofs.YtjjflbnopphciabDoor

namespace Go.Proofs.YtjjflbnopphciabDoor

/-- A number to the power that is the prime less 2 (sixteen ones in binary digits), modulo the prime. -/
def powTo (n : Int) : Nat → Int
  | 0 => 1
  | i + 1 => powTo n i * powTo n i % 65537 * n % 65537
def invT (n : Int) : Int := powTo n 16

theorem powTo_bd (n : Int) (i : Nat) : 0 ≤ powTo n i ∧ powTo n i < 65537 := by
  cases i with
  | zero => simp [powTo]
  | succ i => exact ⟨Int.emod_nonneg _ (by omega), Int.emod_lt_of_pos _ (by omega)⟩
theorem invT_bd (n : Int) : 0 ≤ invT n ∧ invT n < 65537 := powTo_bd n 16

theorem mul_bd2 (a b A B : Int) (ha : 0 ≤ a) (hb : 0 ≤ b) (hA : a ≤ A) (hB : b ≤ B) : 0 ≤ a * b ∧ a * b ≤ A * B :=
  ⟨Int.mul_nonneg ha hb, Int.mul_le_mul hA hB hb (Int.le_trans ha hA)⟩

end Go.Proofs.YtjjflbnopphciabDoor

namespace Go.Proofs.YtjjflbnopphciabDoor
open Go.RowKit

theorem modPrime_any (n : Int) (h0 : -4611686018427387904 ≤ n) (h1 : n ≤ 4611686018427387904) (w : World) :
    Calls Tryd.prog 59 #[.int .i64 n] w fun e w' => e = .returned (.int .i64 (n % 65537)) ∧ w = w' := by
  have hb := tmod_bd n 65537 (by omega)
  have he := tmod_eq n 65537 (by omega)
  have hr := Int.emod_nonneg n (show (65537 : Int) ≠ 0 by omega)
  have hr2 := Int.emod_lt_of_pos n (show (0 : Int) < 65537 by omega)
  have H : Hid ((n.tmod 65537 + 65537) % 65537 = n % 65537) := by show _ = _; omega
  clear he hr hr2
  go_enter Tryd.func59, Tryd.ntmps59
  go_wp2
  go_ret
  refine ⟨?_, rfl⟩
  show Ending.returned (.int .i64 ((n.tmod 65537 + 65537) % 65537)) = _
  rw [H.out]

theorem checkNumber_any (n : Int) (w : World) :
    Calls Tryd.prog 52 #[.int .i64 n] w fun e w' => e = .returned (.int .i64 (rangeE n 0 65536)) ∧ w = w' := by
  go_enter Tryd.func52, Tryd.ntmps52
  go_wp2_with (go_at_call 28; refine (checkRange_any _ _ _ _).mono ?_; rintro e w' ⟨rfl, rfl⟩)
  go_ret
  exact ⟨rfl, rfl⟩
theorem checkCounter_any (n : Int) (w : World) :
    Calls Tryd.prog 72 #[.int .i64 n] w fun e w' => e = .returned (.int .i64 (rangeE n 0 65535)) ∧ w = w' := by
  go_enter Tryd.func72, Tryd.ntmps72
  go_wp2_with (go_at_call 28; refine (checkRange_any _ _ _ _).mono ?_; rintro e w' ⟨rfl, rfl⟩)
  go_ret
  exact ⟨rfl, rfl⟩
theorem checkChannel_any (n : Int) (w : World) :
    Calls Tryd.prog 73 #[.int .i64 n] w fun e w' => e = .returned (.int .i64 (rangeE n 0 3)) ∧ w = w' := by
  go_enter Tryd.func73, Tryd.ntmps73
  go_wp2_with (go_at_call 28; refine (checkRange_any _ _ _ _).mono ?_; rintro e w' ⟨rfl, rfl⟩)
  go_ret
  exact ⟨rfl, rfl⟩

theorem inverseOf_any (n : Int) (h0 : 0 ≤ n) (h1 : n ≤ 65536) (w : World) :
    Calls Tryd.prog 53 #[.int .i64 n] w fun e w' => e = .returned (.int .i64 (invT n)) ∧ w = w' := by
  go_enter Tryd.func53, Tryd.ntmps53
  go_wp2
  go_loop [3, 4] (fun p i => ∃ k : Nat, k ≤ 16 ∧ i = .int .i64 k ∧ p = .int .i64 (powTo n k)) (fun _ i => 16 - (intOf i).toNat)
  case atStart => exact ⟨0, by omega, rfl, rfl⟩
  case round =>
    obtain ⟨k, hk, rfl, rfl⟩ := hrel
    by_cases hlt : k < 16
    · have hb := powTo_bd n k
      have hst : Hid (powTo n (k + 1) = powTo n k * powTo n k % 65537 * n % 65537) := rfl
      obtain ⟨p, hp⟩ : ∃ p, powTo n k = p := ⟨_, rfl⟩
      rw [hp] at hst hb ⊢
      clear hp
      have hpp := mul_bd2 p p 65536 65536 hb.1 hb.1 (by omega) (by omega)
      have hm0 := Int.emod_nonneg (p * p) (show (65537 : Int) ≠ 0 by omega)
      have hm1 := Int.emod_lt_of_pos (p * p) (show (0 : Int) < 65537 by omega)
      have hpn := mul_bd2 (p * p % 65537) n 65536 65536 hm0 h0 (by omega) h1
      go_wp2_with (go_at_call 59; refine (modPrime_any _ (by omega) (by omega) _).mono ?_; rintro e w' ⟨rfl, rfl⟩)
      go_round
      case rel => exact ⟨k + 1, by omega, by go_num, by rw [hst.out]⟩
      case measure => simp [intOf]; omega
    · obtain rfl : k = 16 := by omega
      go_wp2
      go_ret
      exact ⟨rfl, rfl⟩

theorem first_new (es : List Int) (n : Nat) (cs : Array Value) (w : World) (hl : es.length = n) (hn : n ≤ 100) (hc : cs.toList = es.map (Value.int .i64)) :
    Calls Tryd.prog 24 #[.slice (some ⟨w.heap.size, 0, none⟩) n n] (w.alloc (.cells cs 27)) fun e w' => e = .returned (.int .i64 (firstE es)) ∧ w.alloc (.cells cs 27) = w' := by
  refine firstError_any w.heap.size n n es _ hl (fun j hj => ?_) hn
  rw [cell_of_row _ _ j cs _ (0, 0) (heap_alloc_new w _), ← Array.getElem?_toList, hc]
  simp [List.getElem?_eq_getElem (show j < es.length by omega)]
theorem first2 (a b : Int) (w : World) :
    Calls Tryd.prog 24 #[.slice (some ⟨w.heap.size, 0, none⟩) 2 2] (w.alloc (.cells #[.int .i64 a, .int .i64 b] 27)) fun e w' => e = .returned (.int .i64 (firstE [a, b])) ∧ w.alloc (.cells #[.int .i64 a, .int .i64 b] 27) = w' :=
  first_new [a, b] 2 _ w rfl (by omega) rfl
theorem first3 (a b c : Int) (w : World) :
    Calls Tryd.prog 24 #[.slice (some ⟨w.heap.size, 0, none⟩) 3 3] (w.alloc (.cells #[.int .i64 a, .int .i64 b, .int .i64 c] 27)) fun e w' => e = .returned (.int .i64 (firstE [a, b, c])) ∧ w.alloc (.cells #[.int .i64 a, .int .i64 b, .int .i64 c] 27) = w' :=
  first_new [a, b, c] 3 _ w rfl (by omega) rfl
theorem first4 (a b c d : Int) (w : World) :
    Calls Tryd.prog 24 #[.slice (some ⟨w.heap.size, 0, none⟩) 4 4] (w.alloc (.cells #[.int .i64 a, .int .i64 b, .int .i64 c, .int .i64 d] 27)) fun e w' => e = .returned (.int .i64 (firstE [a, b, c, d])) ∧ w.alloc (.cells #[.int .i64 a, .int .i64 b, .int .i64 c, .int .i64 d] 27) = w' :=
  first_new [a, b, c, d] 4 _ w rfl (by omega) rfl
theorem first7 (a b c d f g h : Int) (w : World) :
    Calls Tryd.prog 24 #[.slice (some ⟨w.heap.size, 0, none⟩) 7 7] (w.alloc (.cells #[.int .i64 a, .int .i64 b, .int .i64 c, .int .i64 d, .int .i64 f, .int .i64 g, .int .i64 h] 27)) fun e w' => e = .returned (.int .i64 (firstE [a, b, c, d, f, g, h])) ∧ w.alloc (.cells #[.int .i64 a, .int .i64 b, .int .i64 c, .int .i64 d, .int .i64 f, .int .i64 g, .int .i64 h] 27) = w' :=
  first_new [a, b, c, d, f, g, h] 7 _ w rfl (by omega) rfl

theorem inverse_ok (n : Int) (h0 : 1 ≤ n) (h1 : n ≤ 65536) (w : World) :
    Calls Tryd.prog 19 #[.int .i64 n] w fun e w' => e = .returned (.tuple #[.int .i64 (invT n), .int .i64 0]) ∧ Below w.heap.size w w' := by
  have hn : (n == 0) = false := by simp; omega
  have h2 : rangeE n 0 65536 = 0 := (rangeE_zero _ _ _).2 ⟨by omega, h1⟩
  have C : Hid (∀ W, Calls Tryd.prog 52 #[.int .i64 n] W fun e w' => e = .returned (.int .i64 0) ∧ W = w') := fun W => by rw [← h2]; exact checkNumber_any n W
  clear h2
  have W0 : Hid (∀ W, Calls Tryd.prog 25 #[.bool false, .int .i64 11] W fun e w' => e = .returned (.int .i64 0) ∧ W = w') := fun W => when_any false 11 W
  have hf : firstE [0, 0] = 0 := rfl
  go_enter Tryd.func19, Tryd.ntmps19
  go_wp2_with (first
    | (go_at_call 52; refine (C.out _).mono ?_; rintro e w' ⟨rfl, rfl⟩)
    | (go_at_call 25; refine (W0.out _).mono ?_; rintro e w' ⟨rfl, rfl⟩)
    | (go_at_call 24; refine (first2 0 0 w).mono ?_; rintro e w' ⟨rfl, rfl⟩)
    | (go_at_call 53; refine (inverseOf_any n (by omega) h1 _).mono ?_; rintro e w' ⟨rfl, rfl⟩))
  go_ret2
  exact ⟨rfl, (Below.refl _ _).alloc (Nat.le_refl _) _⟩

end Go.Proofs.YtjjflbnopphciabDoor

namespace Go.Proofs.YtjjflbnopphciabDoor
open Go.RowKit

theorem is8_lit (x0 x1 x2 x3 x4 x5 x6 x7 : Int) : Is8 #[.int .i64 x0, .int .i64 x1, .int .i64 x2, .int .i64 x3, .int .i64 x4, .int .i64 x5, .int .i64 x6, .int .i64 x7] [x0, x1, x2, x3, x4, x5, x6, x7] := by
  refine ⟨rfl, rfl, fun j hj => ?_⟩
  match j, hj with
  | 0, _ => rfl
  | 1, _ => rfl
  | 2, _ => rfl
  | 3, _ => rfl
  | 4, _ => rfl
  | 5, _ => rfl
  | 6, _ => rfl
  | 7, _ => rfl

/-- The error of a block but for its checksum. -/
def contE (c h : Int) (xs : List Int) : Int := firstE [rangeE c 0 65535, rangeE h 0 3, rangesE xs (-32767) 32767]

set_option maxRecDepth 100000 in
set_option maxHeartbeats 1000000 in
theorem checkContents_any (c h x0 x1 x2 x3 x4 x5 x6 x7 s : Int) (w : World) :
    Calls Tryd.prog 54 #[.agg #[.int .i64 c, .int .i64 h, .int .i64 x0, .int .i64 x1, .int .i64 x2, .int .i64 x3, .int .i64 x4, .int .i64 x5, .int .i64 x6, .int .i64 x7, .int .i64 s]] w fun e w' => e = .returned (.int .i64 (contE c h [x0, x1, x2, x3, x4, x5, x6, x7])) ∧ Below w.heap.size w w' := by
  obtain ⟨r1, hr1⟩ : ∃ r, rangeE c 0 65535 = r := ⟨_, rfl⟩
  obtain ⟨r2, hr2⟩ : ∃ r, rangeE h 0 3 = r := ⟨_, rfl⟩
  obtain ⟨r3, hr3⟩ : ∃ r, rangesE [x0, x1, x2, x3, x4, x5, x6, x7] (-32767) 32767 = r := ⟨_, rfl⟩
  have C1 : Hid (∀ W, Calls Tryd.prog 72 #[.int .i64 c] W fun e w' => e = .returned (.int .i64 r1) ∧ W = w') := fun W => by rw [← hr1]; exact checkCounter_any c W
  have C2 : Hid (∀ W, Calls Tryd.prog 73 #[.int .i64 h] W fun e w' => e = .returned (.int .i64 r2) ∧ W = w') := fun W => by rw [← hr2]; exact checkChannel_any h W
  have C3 : Hid (∀ W, Calls Tryd.prog 27 #[.agg #[.int .i64 x0, .int .i64 x1, .int .i64 x2, .int .i64 x3, .int .i64 x4, .int .i64 x5, .int .i64 x6, .int .i64 x7]] W fun e w' => e = .returned (.int .i64 r3) ∧ Below W.heap.size W w') := fun W => by rw [← hr3]; exact checkSamples_any _ _ W (is8_lit x0 x1 x2 x3 x4 x5 x6 x7)
  have HE : Hid (contE c h [x0, x1, x2, x3, x4, x5, x6, x7] = firstE [r1, r2, r3]) := by show contE _ _ _ = _; rw [contE, hr1, hr2, hr3]
  clear hr1 hr2 hr3
  go_enter Tryd.func54, Tryd.ntmps54
  go_wp2_with fail
  go_region_held3 (fun w' => w'.cell? ⟨w.heap.size, 0, none⟩ = some (.int .i64 c) ∧ w'.cell? ⟨w.heap.size, 1, none⟩ = some (.int .i64 h) ∧ w'.cell? ⟨w.heap.size, 2, none⟩ = some (.int .i64 x0) ∧ w'.cell? ⟨w.heap.size, 3, none⟩ = some (.int .i64 x1) ∧ w'.cell? ⟨w.heap.size, 4, none⟩ = some (.int .i64 x2) ∧ w'.cell? ⟨w.heap.size, 5, none⟩ = some (.int .i64 x3) ∧ w'.cell? ⟨w.heap.size, 6, none⟩ = some (.int .i64 x4) ∧ w'.cell? ⟨w.heap.size, 7, none⟩ = some (.int .i64 x5) ∧ w'.cell? ⟨w.heap.size, 8, none⟩ = some (.int .i64 x6) ∧ w'.cell? ⟨w.heap.size, 9, none⟩ = some (.int .i64 x7))
    (first | go_keep | (go_split_ands; refine ⟨?_, ?_, ?_, ?_, ?_, ?_, ?_, ?_, ?_, ?_⟩ <;> (rw [hb.cell (by simp)]; simp [go_sem])))
    (first
      | (go_at_call 72; refine (C1.out _).mono ?_; rintro e w' ⟨rfl, rfl⟩)
      | (go_at_call 73; refine (C2.out _).mono ?_; rintro e w' ⟨rfl, rfl⟩)
      | (go_at_call 27; refine (C3.out _).mono ?_; rintro e w' ⟨rfl, hb⟩)
      | (go_at_call 24; refine (first3 _ _ _ _).mono ?_; rintro e w' ⟨rfl, rfl⟩))
  go_wp2
  go_ret
  exact ⟨by rw [HE.out]; rfl, ((((Below.refl _ _).alloc (Nat.le_refl _) _).drew).trans (hb.mono (by simp))).alloc (by have := hb.size; simp at this; omega) _⟩

def sumTo (c h : Int) (xs : List Int) : Nat → Int
  | 0 => 9 * c + 10 * h
  | k + 1 => sumTo c h xs k + ((k : Int) + 1) * (xs.getD k 0 + 32768)
def sumT (c h : Int) (xs : List Int) : Int := sumTo c h xs 8 % 65537

theorem sumTo_bd (c h : Int) (xs : List Int) (k : Nat) (hk : k ≤ 8) (hc : 0 ≤ c ∧ c ≤ 65535) (hh : 0 ≤ h ∧ h ≤ 3) (hx : Bnd xs 32767) : 0 ≤ sumTo c h xs k ∧ sumTo c h xs k ≤ 1000000 + 600000 * k := by
  induction k with
  | zero => simp only [sumTo]; omega
  | succ k ih =>
    have i := ih (by omega)
    have b := hx k
    have m := mul_bd2 ((k : Int) + 1) (xs.getD k 0 + 32768) 8 65535 (by omega) (by omega) (by omega) (by omega)
    simp only [sumTo]
    omega

theorem sumOf_some (c h x0 x1 x2 x3 x4 x5 x6 x7 s : Int) (w : World) :
    Calls Tryd.prog 55 #[.agg #[.int .i64 c, .int .i64 h, .int .i64 x0, .int .i64 x1, .int .i64 x2, .int .i64 x3, .int .i64 x4, .int .i64 x5, .int .i64 x6, .int .i64 x7, .int .i64 s]] w fun e w' => (∃ n : Int, e = .returned (.int .i64 n)) ∧ Below w.heap.size w w' := by
  have H := Lib.hid (is8_lit x0 x1 x2 x3 x4 x5 x6 x7)
  go_enter Tryd.func55, Tryd.ntmps55
  go_wp2
  go_loop [3, 15] (fun n i => ∃ k : Nat, k ≤ 8 ∧ i = .int .i64 k ∧ Hid (∃ m : Int, n = .int .i64 m)) (fun _ i => 8 - (intOf i).toNat)
  case atStart => exact ⟨0, by omega, rfl, _, rfl⟩
  case round =>
    obtain ⟨k, hk, rfl, hm⟩ := hrel
    obtain ⟨m, rfl⟩ := hm.out
    clear hm
    by_cases hlt : k < 8
    · have hix := H.out.ix k hlt
      obtain ⟨x, hx⟩ : ∃ x, List.getD [x0, x1, x2, x3, x4, x5, x6, x7] k 0 = x := ⟨_, rfl⟩
      rw [hx] at hix
      clear hx
      go_wp2
      go_round
      case rel => exact ⟨k + 1, by omega, by go_num, _, rfl⟩
      case measure => simp [intOf]; omega
    · obtain rfl : k = 8 := by omega
      go_wp2
      go_ret
      exact ⟨⟨_, rfl⟩, (Below.refl _ _).alloc (Nat.le_refl _) _⟩

theorem sumOf_ok (c h x0 x1 x2 x3 x4 x5 x6 x7 s : Int) (w : World) (hc : 0 ≤ c ∧ c ≤ 65535) (hh : 0 ≤ h ∧ h ≤ 3) (hxs : Bnd [x0, x1, x2, x3, x4, x5, x6, x7] 32767) :
    Calls Tryd.prog 55 #[.agg #[.int .i64 c, .int .i64 h, .int .i64 x0, .int .i64 x1, .int .i64 x2, .int .i64 x3, .int .i64 x4, .int .i64 x5, .int .i64 x6, .int .i64 x7, .int .i64 s]] w fun e w' => e = .returned (.int .i64 (sumT c h [x0, x1, x2, x3, x4, x5, x6, x7])) ∧ Below w.heap.size w w' := by
  have H := Lib.hid (is8_lit x0 x1 x2 x3 x4 x5 x6 x7)
  have HB := Lib.hid hxs
  clear hxs
  go_enter Tryd.func55, Tryd.ntmps55
  go_wp2
  go_loop [3, 15] (fun n i => ∃ k : Nat, k ≤ 8 ∧ i = .int .i64 k ∧ n = .int .i64 (sumTo c h [x0, x1, x2, x3, x4, x5, x6, x7] k)) (fun _ i => 8 - (intOf i).toNat)
  case atStart => exact ⟨0, by omega, rfl, rfl⟩
  case round =>
    obtain ⟨k, hk, rfl, rfl⟩ := hrel
    have hbd := sumTo_bd c h [x0, x1, x2, x3, x4, x5, x6, x7] k hk hc hh HB.out
    by_cases hlt : k < 8
    · have hix := H.out.ix k hlt
      have hxb := HB.out k
      have hst : Hid (sumTo c h [x0, x1, x2, x3, x4, x5, x6, x7] (k + 1) = sumTo c h [x0, x1, x2, x3, x4, x5, x6, x7] k + ((k : Int) + 1) * (List.getD [x0, x1, x2, x3, x4, x5, x6, x7] k 0 + 32768)) := rfl
      obtain ⟨x, hx⟩ : ∃ x, List.getD [x0, x1, x2, x3, x4, x5, x6, x7] k 0 = x := ⟨_, rfl⟩
      obtain ⟨n, hn⟩ : ∃ n, sumTo c h [x0, x1, x2, x3, x4, x5, x6, x7] k = n := ⟨_, rfl⟩
      rw [hx] at hix hxb hst
      rw [hn] at hst hbd ⊢
      clear hx hn
      have hm := mul_bd2 ((k : Int) + 1) (x + 32768) 8 65535 (by omega) (by omega) (by omega) (by omega)
      go_wp2
      go_round
      case rel => exact ⟨k + 1, by omega, by go_num, by rw [hst.out]⟩
      case measure => simp [intOf]; omega
    · obtain rfl : k = 8 := by omega
      obtain ⟨n, hn⟩ : ∃ n, sumTo c h [x0, x1, x2, x3, x4, x5, x6, x7] 8 = n := ⟨_, rfl⟩
      have hT : Hid (sumT c h [x0, x1, x2, x3, x4, x5, x6, x7] = n % 65537) := by show sumT _ _ _ = _; rw [sumT, hn]
      rw [hn] at hbd ⊢
      clear hn
      go_wp2
      go_ret
      exact ⟨by rw [hT.out]; rfl, (Below.refl _ _).alloc (Nat.le_refl _) _⟩

end Go.Proofs.YtjjflbnopphciabDoor

namespace Go.Proofs.YtjjflbnopphciabDoor
open Go.RowKit

def smpB (xs : List Int) : Bool := decide (rangesE xs (-32767) 32767 = 0)

theorem isSample_any (n : Int) (w : World) :
    Calls Tryd.prog 74 #[.int .i64 n] w fun e w' => e = .returned (.bool (inB n (-32767) 32767)) ∧ w = w' := by
  go_enter Tryd.func74, Tryd.ntmps74
  go_wp2_with (go_at_call 13; refine (within_any _ _ _ _).mono ?_; rintro e w' ⟨rfl, rfl⟩)
  go_ret
  exact ⟨rfl, rfl⟩

theorem areSamples_any (A : Option Addr) (n c : Nat) (xs : List Int) (w : World) (hr : RdI w A n xs) (hn : n ≤ 9223372036854775807) :
    Calls Tryd.prog 56 #[.slice A n c] w fun e w' => e = .returned (.bool (smpB xs)) ∧ w = w' := by
  have HR := Lib.hid hr; clear hr
  go_enter Tryd.func56, Tryd.ntmps56
  go_wp2
  go_loop [3] (fun i => ∃ k : Nat, k ≤ n ∧ i = .int .i64 k ∧ Hid (rangesE xs (-32767) 32767 = rangesE (xs.drop k) (-32767) 32767)) (fun i => n - (intOf i).toNat)
  case atStart => exact ⟨0, Nat.zero_le _, rfl, rfl⟩
  case round =>
    obtain ⟨k, hk, rfl, HE⟩ := hrel
    by_cases hlt : k < n
    · obtain ⟨ad, ha, _, hc⟩ := HR.out.2 (by omega)
      have hck := hc k hlt
      clear hc
      subst ha
      obtain ⟨x, hx⟩ : ∃ x, xs.getD k 0 = x := ⟨_, rfl⟩
      have hs := rangesE_step xs (-32767) 32767 k (by have := HR.out.1; omega)
      rw [hx] at hck hs
      have HS := Lib.hid hs; clear hs hx
      obtain ⟨b, hb⟩ : ∃ b, inB x (-32767) 32767 = b := ⟨_, rfl⟩
      have C : Hid (∀ W, Calls Tryd.prog 74 #[.int .i64 x] W fun e w' => e = .returned (.bool b) ∧ W = w') := fun W => by rw [← hb]; exact isSample_any x W
      have hre : rangeE x (-32767) 32767 = if b then 0 else 2 := by rw [rangeE, hb]
      have HRE := Lib.hid hre
      clear hre hb
      cases b
      · go_wp2_with (go_at_call 74; refine (C.out _).mono ?_; rintro e w' ⟨rfl, rfl⟩)
        go_ret
        refine ⟨?_, rfl⟩
        have e : rangesE xs (-32767) 32767 = 2 := by rw [HE.out, HS.out, HRE.out]; rfl
        simp [smpB, e]
      · go_wp2_with (go_at_call 74; refine (C.out _).mono ?_; rintro e w' ⟨rfl, rfl⟩)
        go_round
        case rel =>
          refine ⟨k + 1, by omega, by go_num, ?_⟩
          show rangesE xs (-32767) 32767 = _
          rw [HE.out, HS.out, HRE.out]
          rfl
        case measure => simp [intOf]; omega
    · go_wp2
      go_ret
      refine ⟨?_, rfl⟩
      have e : rangesE xs (-32767) 32767 = 0 := by rw [HE.out, List.drop_of_length_le (by have := HR.out.1; omega)]; rfl
      simp [smpB, e]

theorem contE_cases (c h : Int) (xs : List Int) : contE c h xs = if inB c 0 65535 && inB h 0 3 && smpB xs then 0 else 2 := by
  unfold contE smpB rangeE
  rcases rangesE_cases xs (-32767) 32767 with e | e <;> cases inB c 0 65535 <;> cases inB h 0 3 <;> simp [firstE, e]

end Go.Proofs.YtjjflbnopphciabDoor

namespace Go.Proofs.YtjjflbnopphciabDoor
open Go.RowKit

theorem contE_ok {c h : Int} {xs : List Int} (e : contE c h xs = 0) : (0 ≤ c ∧ c ≤ 65535) ∧ (0 ≤ h ∧ h ≤ 3) ∧ Bnd xs 32767 := by
  rw [contE_cases] at e
  have e2 : (inB c 0 65535 && inB h 0 3 && smpB xs) = true := by
    by_cases g : (inB c 0 65535 && inB h 0 3 && smpB xs) = true
    · exact g
    · rw [if_neg g] at e; cases e
  simp only [Bool.and_eq_true] at e2
  obtain ⟨⟨a, b⟩, d⟩ := e2
  simp only [inB, Bool.and_eq_true, decide_eq_true_eq] at a b
  exact ⟨a, b, bnd_of_rangesE xs (by simpa [smpB] using d)⟩
theorem contE_err {c h : Int} {xs : List Int} (e : contE c h xs ≠ 0) : contE c h xs = 2 := by
  rw [contE_cases] at e ⊢
  split
  · rename_i g; rw [if_pos g] at e; exact absurd rfl e
  · rfl

theorem sum_ok (c h x0 x1 x2 x3 x4 x5 x6 x7 s : Int) (w : World) (he : contE c h [x0, x1, x2, x3, x4, x5, x6, x7] = 0) :
    Calls Tryd.prog 20 #[.agg #[.int .i64 c, .int .i64 h, .int .i64 x0, .int .i64 x1, .int .i64 x2, .int .i64 x3, .int .i64 x4, .int .i64 x5, .int .i64 x6, .int .i64 x7, .int .i64 s]] w fun e w' => e = .returned (.tuple #[.int .i64 (sumT c h [x0, x1, x2, x3, x4, x5, x6, x7]), .int .i64 0]) ∧ Below w.heap.size w w' := by
  obtain ⟨h1, h2, h3⟩ := contE_ok he
  have C1 : Hid (∀ W, Calls Tryd.prog 54 #[.agg #[.int .i64 c, .int .i64 h, .int .i64 x0, .int .i64 x1, .int .i64 x2, .int .i64 x3, .int .i64 x4, .int .i64 x5, .int .i64 x6, .int .i64 x7, .int .i64 s]] W fun e w' => e = .returned (.int .i64 0) ∧ Below W.heap.size W w') := fun W => by rw [← he]; exact checkContents_any c h x0 x1 x2 x3 x4 x5 x6 x7 s W
  have C2 : Hid (∀ W, Calls Tryd.prog 55 #[.agg #[.int .i64 c, .int .i64 h, .int .i64 x0, .int .i64 x1, .int .i64 x2, .int .i64 x3, .int .i64 x4, .int .i64 x5, .int .i64 x6, .int .i64 x7, .int .i64 s]] W fun e w' => e = .returned (.int .i64 (sumT c h [x0, x1, x2, x3, x4, x5, x6, x7])) ∧ Below W.heap.size W w') := fun W => sumOf_ok c h x0 x1 x2 x3 x4 x5 x6 x7 s W h1 h2 h3
  clear h1 h2 h3 he
  have B0 : Hid (Bk (w.alloc (.cells #[.int .i64 c, .int .i64 h, .int .i64 x0, .int .i64 x1, .int .i64 x2, .int .i64 x3, .int .i64 x4, .int .i64 x5, .int .i64 x6, .int .i64 x7, .int .i64 s] 58)) w.heap.size 58 #[.int .i64 c, .int .i64 h, .int .i64 x0, .int .i64 x1, .int .i64 x2, .int .i64 x3, .int .i64 x4, .int .i64 x5, .int .i64 x6, .int .i64 x7, .int .i64 s]) := Bk.new _ _ _
  go_enter Tryd.func20, Tryd.ntmps20
  go_wp2_with fail
  refine (C1.out _).mono ?_
  rintro e w2 ⟨rfl, hb2⟩
  have B2 := B0.out.below hb2 (by simp)
  have l2 : Hid (Below w.heap.size w w2) := ((Below.refl _ _).alloc (Nat.le_refl _) _).trans (hb2.mono (by simp))
  have c0 := B2.cell 0
  have c1 := B2.cell 1
  have c2 := B2.cell 2
  have c3 := B2.cell 3
  have c4 := B2.cell 4
  have c5 := B2.cell 5
  have c6 := B2.cell 6
  have c7 := B2.cell 7
  have c8 := B2.cell 8
  have c9 := B2.cell 9
  have c10 := B2.cell 10
  clear hb2 B2
  go_wp2_with fail
  refine (C2.out _).mono ?_
  rintro e w3 ⟨rfl, hb3⟩
  have l3 : Hid (Below w.heap.size w w3) := l2.out.trans (hb3.mono l2.out.size)
  clear hb3
  go_wp2
  go_ret2
  exact ⟨rfl, l3.out⟩

theorem sum_err (c h x0 x1 x2 x3 x4 x5 x6 x7 s : Int) (w : World) (he : contE c h [x0, x1, x2, x3, x4, x5, x6, x7] ≠ 0) :
    Calls Tryd.prog 20 #[.agg #[.int .i64 c, .int .i64 h, .int .i64 x0, .int .i64 x1, .int .i64 x2, .int .i64 x3, .int .i64 x4, .int .i64 x5, .int .i64 x6, .int .i64 x7, .int .i64 s]] w fun e w' => e = .returned (.tuple #[.int .i64 0, .int .i64 2]) ∧ Below w.heap.size w w' := by
  have he2 := contE_err he
  have C1 : Hid (∀ W, Calls Tryd.prog 54 #[.agg #[.int .i64 c, .int .i64 h, .int .i64 x0, .int .i64 x1, .int .i64 x2, .int .i64 x3, .int .i64 x4, .int .i64 x5, .int .i64 x6, .int .i64 x7, .int .i64 s]] W fun e w' => e = .returned (.int .i64 2) ∧ Below W.heap.size W w') := fun W => by rw [← he2]; exact checkContents_any c h x0 x1 x2 x3 x4 x5 x6 x7 s W
  clear he he2
  go_enter Tryd.func20, Tryd.ntmps20
  go_wp2_with fail
  refine (C1.out _).mono ?_
  rintro e w2 ⟨rfl, hb2⟩
  have l2 : Hid (Below w.heap.size w w2) := ((Below.refl _ _).alloc (Nat.le_refl _) _).trans (hb2.mono (by simp))
  clear hb2
  go_wp2
  go_ret2
  exact ⟨rfl, l2.out⟩

/-- A block's own cells, held in a world. -/
def Held11 (w : World) (g : Nat) (c h x0 x1 x2 x3 x4 x5 x6 x7 s : Int) : Prop := Bk w g 58 #[.int .i64 c, .int .i64 h, .int .i64 x0, .int .i64 x1, .int .i64 x2, .int .i64 x3, .int .i64 x4, .int .i64 x5, .int .i64 x6, .int .i64 x7, .int .i64 s]

end Go.Proofs.YtjjflbnopphciabDoor

namespace Go.Proofs.YtjjflbnopphciabDoor
open Go.RowKit

def SomeBool (e : Ending) : Prop := ∃ b : Bool, e = .returned (.bool b)

def blockE (c h : Int) (xs : List Int) (s : Int) : Int := if contE c h xs = 0 then (if s = sumT c h xs then 0 else 20) else 2

end Go.Proofs.YtjjflbnopphciabDoor

