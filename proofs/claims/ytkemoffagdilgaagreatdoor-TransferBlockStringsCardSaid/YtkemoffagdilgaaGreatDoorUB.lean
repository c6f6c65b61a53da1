import Derived.Test.YtkemoffagdilgaaGreatDoorProg
import Derived.WalkKit
import Derived.WalkSpells
import Derived.WalkLawsBesides
import Derived.Lib.Hide
import Derived.Deep.QuietTactic
import Derived.BigQuiet
import Derived.Test.YtkemoffagdilgaaGreatDoorUA
import Derived.Deep.RegionHeld3
import Derived.Laws.CopyOwn
namespace Go.Proofs.YtkemoffagdilgaaGreatDoor
open Go.RowKit

def inB (n lo hi : Int) : Bool := decide (lo ≤ n) && decide (n ≤ hi)

theorem within_any (n lo hi : Int) (w : World) :
    Calls Tryz.prog 22 #[.int .i64 n, .int .i64 lo, .int .i64 hi] w fun e w' => e = .returned (.bool (inB n lo hi)) ∧ w = w' := by
  by_cases h1 : lo ≤ n
  · go_enter Tryz.func22, Tryz.ntmps22
    go_wp2
    go_ret
    exact ⟨by simp [inB, h1], rfl⟩
  · go_enter Tryz.func22, Tryz.ntmps22
    go_wp2
    go_ret
    exact ⟨by simp [inB]; omega, rfl⟩

def whenE (b : Bool) (e : Int) : Int := if b then e else 0

theorem when_any (b : Bool) (e : Int) (w : World) :
    Calls Tryz.prog 28 #[.bool b, .int .i64 e] w fun r w' => r = .returned (.int .i64 (whenE b e)) ∧ w = w' := by
  cases b
  all_goals
    go_enter Tryz.func28, Tryz.ntmps28
    go_wp2
    go_ret
    exact ⟨rfl, rfl⟩

def rangeE (n lo hi : Int) : Int := if inB n lo hi then 0 else 2

theorem checkRange_any (n lo hi : Int) (w : World) :
    Calls Tryz.prog 29 #[.int .i64 n, .int .i64 lo, .int .i64 hi] w fun r w' => r = .returned (.int .i64 (rangeE n lo hi)) ∧ w = w' := by
  by_cases h1 : n < lo
  · go_enter Tryz.func29, Tryz.ntmps29
    go_wp2_with (go_at_call 28; refine (when_any _ _ _).mono ?_; rintro e w' ⟨rfl, rfl⟩)
    go_ret
    exact ⟨by simp [rangeE, inB, whenE]; omega, rfl⟩
  · go_enter Tryz.func29, Tryz.ntmps29
    go_wp2_with (go_at_call 28; refine (when_any _ _ _).mono ?_; rintro e w' ⟨rfl, rfl⟩)
    go_ret
    exact ⟨by simp [rangeE, inB, whenE]; split <;> split <;> omega, rfl⟩

theorem tmod_bd (n b : Int) (hb : 0 < b) : -b < n.tmod b ∧ n.tmod b < b := by
  have h1 := Int.tmod_lt_of_pos n hb
  have h2 : -b < n.tmod b := by have h3 := Int.tmod_lt_of_pos (-n) hb; rw [Int.neg_tmod] at h3; omega
  exact ⟨h2, h1⟩
theorem tmod_eq (n b : Int) (hb : 0 < b) : n.tmod b = n % b ∨ n.tmod b = n % b - b := by
  rw [Int.tmod_eq_emod]
  split
  · left; omega
  · right; omega
theorem tmod_neg (n b : Int) (hb : 0 < b) (h : n.tmod b < 0) : n.tmod b + b = n % b := by
  rcases tmod_eq n b hb with e | e
  · have := Int.emod_nonneg n (by omega : b ≠ 0); omega
  · omega
theorem tmod_pos (n b : Int) (hb : 0 < b) (h : 0 ≤ n.tmod b) : n.tmod b = n % b := by
  rcases tmod_eq n b hb with e | e
  · exact e
  · have := Int.emod_lt_of_pos n hb; omega

theorem mod_any (n b : Int) (hn0 : -9223372036854775808 ≤ n) (hn1 : n ≤ 9223372036854775807) (hb : 0 < b) (hb2 : b ≤ 4611686018427387904) (w : World) :
    Calls Tryz.prog 51 #[.int .i64 n, .int .i64 b] w fun r w' => r = .returned (.int .i64 (n % b)) ∧ w = w' := by
  go_enter Tryz.func51, Tryz.ntmps51
  go_wp2
  all_goals go_ret
  · have h : n.tmod b < 0 := by assumption
    have h1 := tmod_bd n b hb
    refine ⟨?_, rfl⟩
    show Ending.returned (Value.int .i64 (wrap64 (n.tmod b + b))) = _
    rw [IntWalk.wrap64_in _ ⟨by omega, by omega⟩, tmod_neg n b hb h]
  · have h : 0 ≤ n.tmod b := by assumption
    refine ⟨?_, rfl⟩
    show Ending.returned (Value.int .i64 (n.tmod b)) = _
    rw [tmod_pos n b hb h]

end Go.Proofs.YtkemoffagdilgaaGreatDoor

namespace Go.Proofs.YtkemoffagdilgaaGreatDoor
open Go.RowKit

def firstE : List Int → Int
  | [] => 0
  | e :: es => if e = 0 then firstE es else e

theorem firstE_drop (es : List Int) (k : Nat) (hk : k < es.length) : firstE (es.drop k) = if es.getD k 0 = 0 then firstE (es.drop (k + 1)) else es.getD k 0 := by
  rw [List.drop_eq_getElem_cons hk]
  simp [firstE, List.getD_eq_getElem?_getD, List.getElem?_eq_getElem hk]

theorem firstError_any (b : Nat) (n c : Nat) (es : List Int) (w : World) (hl : es.length = n) (hc : ∀ j, j < n → w.cell? ⟨b, j, none⟩ = some (.int .i64 (es.getD j 0))) (hn : n ≤ 100) :
    Calls Tryz.prog 26 #[.slice (some ⟨b, 0, none⟩) n c] w fun e w' => e = .returned (.int .i64 (firstE es)) ∧ w = w' := by
  have HC := Lib.hid hc; clear hc
  have HL := Lib.hid hl; clear hl
  go_enter Tryz.func26, Tryz.ntmps26
  go_wp2
  go_loop [4, 7] (fun e i => ∃ k : Nat, k ≤ n ∧ i = .int .i64 k ∧ firstE es = firstE (es.drop k)) (fun _ i => n - (intOf i).toNat)
  case atStart => exact ⟨0, Nat.zero_le _, rfl, rfl⟩
  case round =>
    obtain ⟨k, hk, rfl, he⟩ := hrel
    have HE := Lib.hid he; clear he
    by_cases hlt : k < n
    · have hck := HC.out k hlt
      go_wp2
      · have h1 : (es[k]?.getD 0 != 0) = true := by assumption
        go_ret
        refine ⟨?_, rfl⟩
        rw [HE.out, firstE_drop es k (by have := HL.out; omega)]
        have h2 : es[k]?.getD 0 ≠ 0 := by simpa using h1
        simp [h2]
      · have h1 : (es[k]?.getD 0 != 0) = false := by assumption
        go_round
        case rel =>
          refine ⟨k + 1, by omega, by go_num, ?_⟩
          rw [HE.out, firstE_drop es k (by have := HL.out; omega)]
          have h2 : es[k]?.getD 0 = 0 := by simpa using h1
          simp [h2]
        case measure => simp [intOf]; omega
    · go_wp2
      go_ret
      refine ⟨?_, rfl⟩
      rw [HE.out, List.drop_of_length_le (by have := HL.out; omega)]
      rfl

end Go.Proofs.YtkemoffagdilgaaGreatDoor

namespace Go.Proofs.YtkemoffagdilgaaGreatDoor
open Go.RowKit

theorem blw_drewN {B : Nat} {a w : World} (h : Below B a w) (n : Nat) : Below B a (w.drewN n) := ⟨h.os, h.tape, h.output, h.size, h.block⟩

def letB (c : Int) : Bool := (decide (97 ≤ c) && decide (c ≤ 122)) || (decide (65 ≤ c) && decide (c ≤ 90))
def digB (c : Int) : Bool := decide (48 ≤ c) && decide (c ≤ 57)

theorem isLetter_any (c : Int) (w : World) :
    Calls Tryz.prog 70 #[.int .u8 c] w fun e w' => e = .returned (.bool (letB c)) ∧ w = w' := by
  by_cases h1 : 97 ≤ c
  · by_cases h2 : c ≤ 122
    · go_enter Tryz.func70, Tryz.ntmps70
      go_wp2
      go_ret
      exact ⟨by simp [letB, h1, h2], rfl⟩
    · have h3 : 65 ≤ c := by omega
      have h4 : ¬ c ≤ 90 := by omega
      go_enter Tryz.func70, Tryz.ntmps70
      go_wp2
      go_ret
      exact ⟨by simp [letB]; omega, rfl⟩
  · by_cases h3 : 65 ≤ c
    · by_cases h4 : c ≤ 90
      · go_enter Tryz.func70, Tryz.ntmps70
        go_wp2
        go_ret
        exact ⟨by simp [letB]; omega, rfl⟩
      · go_enter Tryz.func70, Tryz.ntmps70
        go_wp2
        go_ret
        exact ⟨by simp [letB]; omega, rfl⟩
    · go_enter Tryz.func70, Tryz.ntmps70
      go_wp2
      go_ret
      exact ⟨by simp [letB]; omega, rfl⟩

theorem isDigit_any (c : Int) (w : World) :
    Calls Tryz.prog 66 #[.int .u8 c] w fun e w' => e = .returned (.bool (digB c)) ∧ w = w' := by
  by_cases h1 : 48 ≤ c
  · go_enter Tryz.func66, Tryz.ntmps66
    go_wp2
    go_ret
    exact ⟨by simp [digB, h1], rfl⟩
  · go_enter Tryz.func66, Tryz.ntmps66
    go_wp2
    go_ret
    exact ⟨by simp [digB]; omega, rfl⟩

theorem gcd_step (x y : Int) (hy : y ≠ 0) : Int.gcd y (x.tmod y) = Int.gcd x y := by
  have h : x.tmod y = x - y * (x.tdiv y) := by have := Int.tmod_add_mul_tdiv x y; omega
  rw [h, Int.gcd_comm x y]
  have := Int.gcd_sub_mul_left_right y x (x.tdiv y)
  first | exact this | simpa using this

theorem natAbs_tmod_lt (x y : Int) (hy : y ≠ 0) : (x.tmod y).natAbs < y.natAbs := by
  rw [Int.natAbs_tmod]
  exact Nat.mod_lt _ (by omega)

theorem commonDivisor_any (a b : Int) (ha0 : -9223372036854775808 ≤ a) (ha1 : a ≤ 9223372036854775807) (hb : 0 < b) (hb1 : b ≤ 9223372036854775807) (w : World) :
    Calls Tryz.prog 54 #[.int .i64 a, .int .i64 b] w fun e w' => e = .returned (.int .i64 (Int.gcd a b)) ∧ ∃ n, w' = w.drewN n := by
  go_enter Tryz.func54, Tryz.ntmps54
  go_wp2
  go_loopw [0, 1] (fun s t wr => ∃ x y : Int, s = .int .i64 x ∧ t = .int .i64 y ∧ Hid (Int.gcd x y = Int.gcd a b) ∧ -9223372036854775808 ≤ x ∧ x ≤ 9223372036854775807 ∧ -9223372036854775808 < y ∧ y ≤ 9223372036854775807 ∧ Hid (y = 0 → -9223372036854775808 < x) ∧ Hid (∃ n, wr = w.drewN n)) (fun _ t _ => (intOf t).natAbs)
  case atStart => exact ⟨a, b, rfl, rfl, rfl, ha0, ha1, by omega, hb1, fun h => absurd h (by omega), 0, rfl⟩
  case round =>
    obtain ⟨x, y, rfl, rfl, hg, hx0, hx1, hy0, hy1, hz, hw⟩ := hrel
    by_cases h0 : y = 0
    · subst h0
      have hx2 := hz.out rfl
      go_wp2
      all_goals
        go_ret
        refine ⟨?_, hw.out⟩
        have e := hg.out
        simp only [Int.gcd_zero_right] at e
        rw [← e]
        first
        | (show Ending.returned (Value.int .i64 (-x)) = _; congr 2; omega)
        | (show Ending.returned (Value.int .i64 x) = _; congr 2; omega)
    · have h1 : (y == 0) = false := by simpa using h0
      have h2 : (y != 0) = true := by simpa using h0
      have hm := natAbs_tmod_lt x y h0
      have hg2 := gcd_step x y h0
      have HG : Hid (Int.gcd y (x.tmod y) = Int.gcd a b) := hg2.trans hg.out
      clear hg2
      have HM : Hid ((x.tmod y).natAbs < y.natAbs) := hm
      clear hm
      go_wp2
      go_quiet (fail)
      go_wp2
      go_roundw
      case rel =>
        obtain ⟨n, hn⟩ := hw.out
        have hb1 := HM.out
        refine ⟨y, x.tmod y, rfl, rfl, HG, by omega, by omega, by omega, by omega, fun _ => by omega, n + nq, ?_⟩
        rw [hn, World.drewN_drewN]
      case measure => exact HM.out

/-- What 'a fraction in lowest terms' comes to. -/
def lowB (n d : Int) : Bool := decide (0 < d) && decide ((Int.gcd n d : Int) = 1)

theorem isLowest_any (n d : Int) (hn0 : -9223372036854775808 ≤ n) (hn1 : n ≤ 9223372036854775807) (hd1 : d ≤ 9223372036854775807) (w : World) :
    Calls Tryz.prog 53 #[.agg #[.int .i64 n, .int .i64 d]] w fun e w' => e = .returned (.bool (lowB n d)) ∧ Below w.heap.size w w' := by
  by_cases h : 0 < d
  · have hd : decide (0 < d) = true := by simpa using h
    obtain ⟨g, hg⟩ : ∃ g : Int, g = (Int.gcd n d : Int) := ⟨_, rfl⟩
    have HG := Lib.hid hg
    have c := commonDivisor_any n d hn0 hn1 h hd1
    rw [← hg] at c
    clear hg
    have C : Hid (∀ w, Calls Tryz.prog 54 #[.int .i64 n, .int .i64 d] w fun e w' => e = .returned (.int .i64 g) ∧ ∃ n, w' = w.drewN n) := c
    clear c
    go_enter Tryz.func53, Tryz.ntmps53
    go_wp2_with (go_at_call 54; refine (C.out _).mono ?_; rintro e w' ⟨rfl, k, rfl⟩)
    go_ret
    refine ⟨?_, ?_⟩
    · have := HG.out
      simp [lowB, h, ← this]
      try rfl
    · exact blw_drewN ((Below.refl _ _).alloc (Nat.le_refl _) _) _
  · go_enter Tryz.func53, Tryz.ntmps53
    go_wp2
    go_ret
    exact ⟨by simp [lowB]; omega, (Below.refl _ _).alloc (Nat.le_refl _) _⟩

end Go.Proofs.YtkemoffagdilgaaGreatDoor

namespace Go.Proofs.YtkemoffagdilgaaGreatDoor
open Go.RowKit

theorem intInfo : (Tryz.prog.info? 3).map (fun i => (i.zero, i.size, i.bytes)) = some (some (.int .i64 0), 1, 8) := by kernel_rfl
theorem intsUnder : Tryz.prog.underlying 40 = some (.slice 3) := by kernel_rfl

theorem and_one_nat (a : Nat) (ha : a < 9223372036854775808) : bits BinOp.and IntKind.i64 (a : Int) 1 = ((a % 2 : Nat) : Int) := by
  have hx : a &&& 1 = a % 2 := Nat.and_one_is_mod a
  show IntKind.i64.wrap ((BitVec.ofInt 64 (a : Int) &&& BitVec.ofInt 64 (1 : Int)).toNat : Int) = _
  have e1 : (BitVec.ofInt 64 (a : Int)).toNat = a := by
    rw [BitVec.ofInt_natCast, BitVec.toNat_ofNat]; exact Nat.mod_eq_of_lt (by omega)
  have e2 : (BitVec.ofInt 64 (1 : Int)).toNat = 1 := by decide
  rw [BitVec.toNat_and, e1, e2, hx, IntKind.wrap_i64]
  omega
theorem bit_val (m j : Nat) (hm : m < 1000001) : bits BinOp.and IntKind.i64 ((m : Int) / 2 ^ j) 1 = ((m / 2 ^ j % 2 : Nat) : Int) := by
  have e2 : ((m : Int) / 2 ^ j) = ((m / 2 ^ j : Nat) : Int) := by simp
  rw [e2]
  exact and_one_nat _ (Nat.lt_of_le_of_lt (Nat.div_le_self _ _) (by omega))

set_option maxRecDepth 100000 in
theorem appendBits_any (base : Nat) (v : Value) (n : Nat) (xs : List Int) (m c : Nat) (w : World) (hown : w.ownsRow base 3 1 v n (xs.map (Value.int .i64))) (hb : base ≤ w.heap.size)
    (hm : m < 1000001) (hc : c ≤ 64) (hn : n ≤ 10000000) :
    Calls Tryz.prog 33 #[v, .int .i64 m, .int .i64 c] w fun e w' => ∃ v', e = .returned v' ∧ w'.ownsRow base 3 1 v' (n + c) ((xs ++ bitsOf m c).map (Value.int .i64)) ∧ Below base w w' := by
  obtain ⟨i0, hi, hz0, hz1, hz2⟩ := info_parts intInfo
  go_enter Tryz.func33, Tryz.ntmps33
  go_wp2
  go_loopw [0, 7] (fun s i wr => ∃ k : Nat, k ≤ c ∧ i = .int .i64 ((c : Int) - 1 - k) ∧ wr.ownsRow base 3 1 s (n + k) ((xs ++ (bitsOf m c).take k).map (Value.int .i64)) ∧ Below base w wr) (fun _ i _ => (intOf i + 1).toNat)
  case atStart => exact ⟨0, Nat.zero_le _, by simp, by simpa using hown, Below.refl _ _⟩
  case round =>
    obtain ⟨k, hk, rfl, ho, hbw⟩ := hrel
    have HO := Lib.hid ho; clear ho
    by_cases hlt : k < c
    · obtain ⟨j, hj⟩ : ∃ j : Nat, (c : Int) - 1 - k = j := ⟨c - 1 - k, by omega⟩
      rw [hj]
      have HJ := Lib.hid hj
      have hj64 : j < 64 := by omega
      clear hj
      have hv := bit_val m j hm
      obtain ⟨B, hB⟩ : ∃ B : Int, B = ((m / 2 ^ j % 2 : Nat) : Int) := ⟨_, rfl⟩
      rw [← hB] at hv
      have HB := Lib.hid hB
      clear hB
      go_wp2_with (at_builtin; refine wpList_append_own _ rfl (.tmp 14) (.tmp 19) 40 rfl base 3 i0 (.int .i64 0) 1 8 intsUnder hi hz0 hz1 hz2 rfl (by decide) _ _ _ rfl (HO.out.alloc _) ⟨wr.heap.size, 0, none⟩ 1 1 [.int .i64 B] rfl rfl ?c1 ?c2 ?c3 ?c4 ?c5 ?_)
      case c1 =>
        intro q u hq
        match q, hq with
        | 0, hq => simp at hq; subst hq; simp [Addr.add]
      case c2 => intro u hu; simp at hu; subst hu; rfl
      case c3 => unfold maxLen; omega
      case c4 => omega
      case c5 => have := hbw.size; simp; omega
      intro v' w1 hown' hgrow _
      have hb1 : Below base w w1 := (hbw.alloc (by have := hbw.size; omega) _).grown hgrow (by have := hbw.size; simp; omega) (fun q hq => (HO.out.lt q hq).1)
      have HO1 : Hid (w1.ownsRow base 3 1 v' (n + (k + 1)) ((xs ++ (bitsOf m c).take (k + 1)).map (Value.int .i64))) := by
        have e : c - 1 - k = j := by have := HJ.out; omega
        rw [bitsOf_take m c k hlt, e, ← HB.out]
        show w1.ownsRow _ _ _ _ _ _
        simpa [List.map_append, List.append_assoc, Nat.add_assoc, List.map_take] using hown'
      clear hown' hgrow
      go_wp2
      go_roundw
      case rel => exact ⟨k + 1, by omega, by have := HJ.out; congr 1; omega, HO1.out, hb1⟩
      case measure => simp [intOf] <;> omega
    · have h0 : ((c : Int) - 1 - k) = -1 := by omega
      rw [h0]
      obtain rfl : k = c := by omega
      go_wp2
      go_ret
      refine ⟨_, rfl, ?_, hbw⟩
      have := HO.out
      rw [List.take_of_length_le (by rw [bitsOf_length]; omega)] at this
      exact this

end Go.Proofs.YtkemoffagdilgaaGreatDoor

namespace Go.Proofs.YtkemoffagdilgaaGreatDoor
open Go.RowKit

/-- The slice '.slice A n c' reads as the numbers xs. -/
def RdI (w : World) (A : Option Addr) (n : Nat) (xs : List Int) : Prop :=
  xs.length = n ∧ (0 < n → ∃ ad, A = some ad ∧ ad.block < w.heap.size ∧ ∀ j, j < n → w.cell? (ad.add j) = some (.int .i64 (xs.getD j 0)))

theorem addBlock (a : Addr) (n : Nat) : (a.add n).block = a.block := by unfold Addr.add; split <;> rfl
theorem RdI.below {w w' : World} {A : Option Addr} {n : Nat} {xs : List Int} (h : RdI w A n xs) (hb : Below w.heap.size w w') : RdI w' A n xs := by
  refine ⟨h.1, fun hn => ?_⟩
  obtain ⟨ad, e, hlt, hc⟩ := h.2 hn
  exact ⟨ad, e, Nat.lt_of_lt_of_le hlt hb.size, fun j hj => (hb.cell (by rw [addBlock]; exact hlt)).trans (hc j hj)⟩

def rangesE (xs : List Int) (lo hi : Int) : Int := firstE (xs.map fun x => rangeE x lo hi)

theorem rangesE_step (xs : List Int) (lo hi : Int) (k : Nat) (hk : k < xs.length) :
    rangesE (xs.drop k) lo hi = if rangeE (xs.getD k 0) lo hi = 0 then rangesE (xs.drop (k + 1)) lo hi else rangeE (xs.getD k 0) lo hi := by
  unfold rangesE
  rw [List.drop_eq_getElem_cons hk]
  simp only [List.map_cons, firstE, List.getD_eq_getElem?_getD, List.getElem?_eq_getElem hk, Option.getD_some]

theorem from1_any (lo hi n : Int) (b0 b1 : Nat) (w : World) (h0 : w.cell? ⟨b0, 0, none⟩ = some (.int .i64 lo)) (h1 : w.cell? ⟨b1, 0, none⟩ = some (.int .i64 hi)) :
    Calls Tryz.prog 83 #[.int .i64 n, .pointer (some ⟨b0, 0, none⟩), .pointer (some ⟨b1, 0, none⟩)] w fun e w' => e = .returned (.int .i64 (rangeE n lo hi)) ∧ w = w' := by
  go_enter Tryz.func83, Tryz.ntmps83
  go_wp2_with (go_at_call 29; refine (checkRange_any _ _ _ _).mono ?_; rintro e w' ⟨rfl, rfl⟩)
  go_ret
  exact ⟨rfl, rfl⟩

theorem checkEachInt_any (A : Option Addr) (n c : Nat) (xs : List Int) (lo hi : Int) (b0 b1 : Nat) (w : World) (hr : RdI w A n xs) (hn : n ≤ 9223372036854775807)
    (h0 : w.cell? ⟨b0, 0, none⟩ = some (.int .i64 lo)) (h1 : w.cell? ⟨b1, 0, none⟩ = some (.int .i64 hi)) :
    Calls Tryz.prog 71 #[.slice A n c, .func (Fn.func 83) #[] #[.pointer (some ⟨b0, 0, none⟩), .pointer (some ⟨b1, 0, none⟩)]] w
      fun e w' => e = .returned (.int .i64 (rangesE xs lo hi)) ∧ w = w' := by
  have HR := Lib.hid hr; clear hr
  have H0 := Lib.hid h0; clear h0
  have H1 := Lib.hid h1; clear h1
  go_enter Tryz.func71, Tryz.ntmps71
  go_wp2
  go_loop [4, 10] (fun e i => ∃ k : Nat, k ≤ n ∧ i = .int .i64 k ∧ Hid (rangesE xs lo hi = rangesE (xs.drop k) lo hi)) (fun _ i => n - (intOf i).toNat)
  case atStart => exact ⟨0, Nat.zero_le _, rfl, rfl⟩
  case round =>
    obtain ⟨k, hk, rfl, HE⟩ := hrel
    by_cases hlt : k < n
    · obtain ⟨ad, ha, _, hc⟩ := HR.out.2 (by omega)
      have hck := hc k hlt
      clear hc
      subst ha
      obtain ⟨x, hx⟩ : ∃ x, xs.getD k 0 = x := ⟨_, rfl⟩
      have hs := rangesE_step xs lo hi k (by have := HR.out.1; omega)
      rw [hx] at hck hs
      have HS := Lib.hid hs; clear hs hx
      obtain ⟨r, hr⟩ : ∃ r, rangeE x lo hi = r := ⟨_, rfl⟩
      have HRr := Lib.hid hr
      have C : Hid (∀ w : World, w.cell? ⟨b0, 0, none⟩ = some (.int .i64 lo) → w.cell? ⟨b1, 0, none⟩ = some (.int .i64 hi) → Calls Tryz.prog 83 #[.int .i64 x, .pointer (some ⟨b0, 0, none⟩), .pointer (some ⟨b1, 0, none⟩)] w fun e w' => e = .returned (.int .i64 r) ∧ w = w') :=
        fun w a b => by rw [← hr]; exact from1_any lo hi x b0 b1 w a b
      clear hr
      go_wp2_with (go_at_call 83; refine (C.out _ H0.out H1.out).mono ?_; rintro e w' ⟨rfl, rfl⟩)
      · have h1 : (r != 0) = true := by assumption
        go_ret
        refine ⟨?_, rfl⟩
        have h2 : r ≠ 0 := by simpa using h1
        rw [HE.out, HS.out, HRr.out, if_neg h2]
        rfl
      · have h1 : (r != 0) = false := by assumption
        have h2 : r = 0 := by simpa using h1
        go_round
        case rel =>
          refine ⟨k + 1, by omega, by go_num, ?_⟩
          show rangesE xs lo hi = _
          rw [HE.out, HS.out, HRr.out, if_pos h2]
        case measure => simp [intOf]; omega
    · go_wp2
      go_ret
      refine ⟨?_, rfl⟩
      rw [HE.out, List.drop_of_length_le (by have := HR.out.1; omega)]
      rfl

theorem checkSignal_any (A : Option Addr) (n c : Nat) (xs : List Int) (w : World) (hr : RdI w A n xs) (hn : n ≤ 9223372036854775807) :
    Calls Tryz.prog 55 #[.slice A n c] w fun e w' => e = .returned (.int .i64 (rangesE xs (-32767) 32767)) ∧ Below w.heap.size w w' := by
  have HR := Lib.hid hr; clear hr
  go_enter Tryz.func55, Tryz.ntmps55
  go_wp2_with (go_at_call 72; go_in)
  refine (checkEachInt_any A n c xs (-32767) 32767 _ _ _ (HR.out.below (((Below.refl _ _).alloc (Nat.le_refl _) _).alloc (by simp) _)) hn ?_ ?_).mono ?_
  · simp [go_sem]
  · simp [go_sem]
  rintro e w' ⟨rfl, rfl⟩
  go_wp2
  go_ret
  exact ⟨rfl, ((Below.refl _ _).alloc (Nat.le_refl _) _).alloc (by simp) _⟩

end Go.Proofs.YtkemoffagdilgaaGreatDoor

namespace Go.Proofs.YtkemoffagdilgaaGreatDoor
open Go.RowKit

/-- An array of eight integers. -/
structure Is8 (arr : Array Value) (xs : List Int) : Prop where
  size : arr.size = 8
  len : xs.length = 8
  at_ : ∀ j, j < 8 → arr[j]? = some (.int .i64 (xs.getD j 0))

theorem arrUnder : Tryz.prog.underlying 22 = some (.array 8 3) := by kernel_rfl
theorem arrInfo : (Tryz.prog.info? 22).map (·.size) = some 8 := by kernel_rfl
theorem Is8.info {arr : Array Value} {xs : List Int} (h : Is8 arr xs) : (Tryz.prog.info? 22).map (·.size) = some arr.size := by rw [h.size]; exact arrInfo

theorem Is8.ix {arr : Array Value} {xs : List Int} (h : Is8 arr xs) (k : Nat) (hk : k < 8) (w : World) :
    (Instr.index 22 (.agg arr) (.int .i64 (k : Int))).run Tryz.prog w = .ok (.int .i64 (xs.getD k 0)) w := by
  have h1 := h.at_ k hk
  have h2 : (sizeOf 3).run Tryz.prog w = .ok 1 w := by kernel_rfl
  have h3 : (0 : Int) ≤ k ∧ (k : Int) < ((8 : Nat) : Int) := by omega
  have h4 : (isAgg 3).run Tryz.prog w = .ok false w := by kernel_rfl
  unfold Instr.index
  simp only [asIntOf, Sem.run_bind, Sem.run_pure, Result.andThen_ok, run_underlying arrUnder, h2, Int.toNat_natCast, Nat.mul_one]
  rw [if_pos h3]
  simp [Go.part, Sem.run_bind, h4, h1]

theorem checkSamples_any (arr : Array Value) (xs : List Int) (w : World) (h : Is8 arr xs) :
    Calls Tryz.prog 31 #[.agg arr] w fun e w' => e = .returned (.int .i64 (rangesE xs (-32767) 32767)) ∧ Below w.heap.size w w' := by
  have hrd : RdI (w.alloc (.cells arr 22)) (some ⟨w.heap.size, 0, none⟩) 8 xs := by
    refine ⟨h.len, fun _ => ⟨_, rfl, by simp, fun j hj => ?_⟩⟩
    have hadd : (⟨w.heap.size, 0, none⟩ : Addr).add j = ⟨w.heap.size, j, none⟩ := by unfold Addr.add; split <;> simp_all
    rw [hadd, cell_of_row _ _ j arr _ (0, 0) (heap_alloc_new w _)]
    exact h.at_ j hj
  have H := Lib.hid h; clear h
  have HR := Lib.hid hrd; clear hrd
  go_enter Tryz.func31, Tryz.ntmps31
  go_wp2_with fail
  refine (checkSignal_any _ 8 8 xs _ HR.out (by omega)).mono ?_
  rintro e w' ⟨rfl, hb⟩
  go_wp2
  go_ret
  exact ⟨rfl, ((Below.refl _ _).alloc (Nat.le_refl _) _).trans (hb.mono (by simp))⟩

theorem bitsFor_any (arr : Array Value) (us : List Int) (k : Nat) (w : World) (h : Is8 arr us) (hs : Small us) (hk : k ≤ 17) :
    Calls Tryz.prog 56 #[.agg arr, .int .i64 k] w fun e w' => e = .returned (.int .i64 (bitsF us k)) ∧ Below w.heap.size w w' := by
  have H := Lib.hid h; clear h
  have HS := Lib.hid hs; clear hs
  go_enter Tryz.func56, Tryz.ntmps56
  go_wp2_with (with_reducible refine wpList_load_row rfl 22 (.tmp 2) rfl w.heap.size rfl 22 arr (0, 0) _ (heap_alloc_new w _) arrUnder rfl H.out.info ?_)
  go_loop [5, 9] (fun n i => ∃ j : Nat, j ≤ 8 ∧ i = .int .i64 j ∧ n = .int .i64 (bitsTo us k j)) (fun _ i => 8 - (intOf i).toNat)
  case atStart => exact ⟨0, Nat.zero_le _, rfl, by rw [bitsTo_zero]⟩
  case round =>
    obtain ⟨j, hj, rfl, rfl⟩ := hrel
    have hb := bitsTo_bd us k j HS.out hk (by rw [H.out.len]; exact hj)
    by_cases hlt : j < 8
    · have hst := bitsTo_step us k j (by rw [H.out.len]; exact hlt)
      obtain ⟨u, hu⟩ : ∃ u, us.getD j 0 = u := ⟨_, rfl⟩
      have hq := quo_bd _ k (HS.out j).1 (HS.out j).2
      have hu0 := (HS.out j).1
      have hix := H.out.ix j hlt
      rw [hu] at hst hq hix hu0
      clear hu
      obtain ⟨N, hN⟩ : ∃ N, bitsTo us k j = N := ⟨_, rfl⟩
      rw [hN] at hst hb ⊢
      have HST := Lib.hid hst
      clear hst hN
      go_wp2
      go_round
      case rel => exact ⟨j + 1, by omega, by go_num, by rw [HST.out]⟩
      case measure => simp [intOf]; omega
    · obtain rfl : j = 8 := by omega
      go_wp2
      go_ret
      exact ⟨rfl, (Below.refl _ _).alloc (Nat.le_refl _) _⟩

end Go.Proofs.YtkemoffagdilgaaGreatDoor

namespace Go.Proofs.YtkemoffagdilgaaGreatDoor
open Go.RowKit

theorem expected_core (arr : Array Value) (xs : List Int) (i p : Nat) (f0 f1 : Int) (M : Int) (w : World) (h : Is8 arr xs) (hb : Bnd xs M) (hM : 0 ≤ M) (hM2 : M ≤ 1000000000000) (hi : i < 8) (hp : p < 3)
    (h1 : 0 < w.heap.size) (g0 : -2 ≤ f0 ∧ f0 ≤ 2) (g1 : -2 ≤ f1 ∧ f1 ≤ 2) (hc0 : w.cell? ⟨0, p * 2, none⟩ = some (.int .i64 f0)) (hc1 : w.cell? ⟨0, p * 2 + 1, none⟩ = some (.int .i64 f1)) :
    Calls Tryz.prog 57 #[.agg arr, .int .i64 i, .int .i64 p] w fun e w' => e = .returned (.int .i64 (expd2 xs i f0 f1)) ∧ Below w.heap.size w w' := by
  have H := Lib.hid h; clear h
  have HB := Lib.hid hb; clear hb
  have c0 : (w.alloc (.cells arr 22)).cell? ⟨0, p * 2, none⟩ = some (.int .i64 f0) := by rw [World.cell?_alloc_lt w _ _ h1]; exact hc0
  have c1 : (w.alloc (.cells arr 22)).cell? ⟨0, p * 2 + 1, none⟩ = some (.int .i64 f1) := by rw [World.cell?_alloc_lt w _ _ h1]; exact hc1
  clear hc0 hc1
  have i0 : ∀ w, (Instr.index 107 (.agg #[.int .i64 f0, .int .i64 f1]) (.int .i64 0)).run Tryz.prog w = .ok (.int .i64 f0) w := fun _ => by kernel_rfl
  have i1 : ∀ w, (Instr.index 107 (.agg #[.int .i64 f0, .int .i64 f1]) (.int .i64 1)).run Tryz.prog w = .ok (.int .i64 f1) w := fun _ => by kernel_rfl
  go_enter Tryz.func57, Tryz.ntmps57
  go_wp2
  clear c0 c1
  go_loop [7, 14] (fun s k => (s = .int .i64 0 ∧ k = .int .i64 0) ∨ (s = .int .i64 (expT xs i 0 f0) ∧ k = .int .i64 1) ∨ (s = .int .i64 (expd2 xs i f0 f1) ∧ k = .int .i64 2)) (fun _ k => 2 - (intOf k).toNat)
  case atStart => exact .inl ⟨rfl, rfl⟩
  case round =>
    rcases hrel with ⟨rfl, rfl⟩ | ⟨rfl, rfl⟩ | ⟨rfl, rfl⟩
    · by_cases hge : 1 ≤ i
      · obtain ⟨q, rfl⟩ : ∃ q, i = q + 1 := ⟨i - 1, by omega⟩
        have hq := H.out.at_ q (by omega)
        have hxb := HB.out q
        obtain ⟨x, hx⟩ : ∃ x, xs.getD q 0 = x := ⟨_, rfl⟩
        have HX : Hid (expT xs (q + 1) 0 f0 = f0 * x) := by show expT xs (q + 1) 0 f0 = f0 * x; simp only [expT]; rw [if_pos (by omega), ← hx]; rfl
        rw [hx] at hq hxb
        clear hx
        have hcell : (w.alloc (.cells arr 22)).cell? ⟨w.heap.size, q, none⟩ = some (.int .i64 x) := by rw [cell_of_row _ _ q arr _ (0, 0) (heap_alloc_new w _)]; exact hq
        have hm := mul_bd f0 x M hxb hM g0.1 g0.2
        clear hq
        go_wp2
        go_round
        case rel => exact .inr (.inl ⟨by rw [HX.out], rfl⟩)
        case measure => simp [intOf]
      · obtain rfl : i = 0 := by omega
        have HX : Hid (expT xs 0 0 f0 = 0) := rfl
        go_wp2
        go_round
        case rel => exact .inr (.inl ⟨by rw [HX.out], rfl⟩)
        case measure => simp [intOf]
    · by_cases hge : 2 ≤ i
      · obtain ⟨q, rfl⟩ : ∃ q, i = q + 2 := ⟨i - 2, by omega⟩
        have hq := H.out.at_ q (by omega)
        have hxb := HB.out q
        obtain ⟨x, hx⟩ : ∃ x, xs.getD q 0 = x := ⟨_, rfl⟩
        have hs0 := expT_bd xs (q + 2) 0 f0 M HB.out hM g0.1 g0.2
        obtain ⟨s, hs⟩ : ∃ s, expT xs (q + 2) 0 f0 = s := ⟨_, rfl⟩
        have HX : Hid (expd2 xs (q + 2) f0 f1 = s + f1 * x) := by show expd2 xs (q + 2) f0 f1 = s + f1 * x; simp only [expd2, hs]; simp only [expT]; rw [if_pos (by omega), ← hx]; rfl
        rw [hs] at hs0 ⊢
        rw [hx] at hq hxb
        clear hx hs
        have hcell : (w.alloc (.cells arr 22)).cell? ⟨w.heap.size, q, none⟩ = some (.int .i64 x) := by rw [cell_of_row _ _ q arr _ (0, 0) (heap_alloc_new w _)]; exact hq
        have hm := mul_bd f1 x M hxb hM g1.1 g1.2
        clear hq
        go_wp2
        go_round
        case rel => exact .inr (.inr ⟨by rw [HX.out], rfl⟩)
        case measure => simp [intOf]
      · obtain ⟨s, hs⟩ : ∃ s, expT xs i 0 f0 = s := ⟨_, rfl⟩
        have HX : Hid (expd2 xs i f0 f1 = s) := by show expd2 xs i f0 f1 = s; simp only [expd2, hs]; simp only [expT]; rw [if_neg (by omega)]; omega
        rw [hs]
        clear hs
        go_wp2
        go_round
        case rel => exact .inr (.inr ⟨by rw [HX.out], rfl⟩)
        case measure => simp [intOf]
    · go_wp2
      go_ret
      exact ⟨rfl, (Below.refl _ _).alloc (Nat.le_refl _) _⟩

end Go.Proofs.YtkemoffagdilgaaGreatDoor

namespace Go.Proofs.YtkemoffagdilgaaGreatDoor
open Go.RowKit

/-- Block g is just the cells cs of type t. -/
def Bk (w : World) (g : Nat) (t : TypeId) (cs : Array Value) : Prop := w.heap[g]? = some (.cells cs t (0, 0))
theorem Bk.heap {w : World} {g : Nat} {t : TypeId} {cs : Array Value} (h : Bk w g t cs) : w.heap[g]? = some (.cells cs t (0, 0)) := h
theorem Bk.lt {w : World} {g : Nat} {t : TypeId} {cs : Array Value} (h : Bk w g t cs) : g < w.heap.size := by
  rcases Nat.lt_or_ge g w.heap.size with h1 | h1
  · exact h1
  · unfold Bk at h; rw [Array.getElem?_eq_none h1] at h; cases h
theorem Bk.cell {w : World} {g : Nat} {t : TypeId} {cs : Array Value} (h : Bk w g t cs) (i : Nat) : w.cell? ⟨g, i, none⟩ = cs[i]? := cell_of_row w g i cs t (0, 0) h
theorem Bk.frozen {w : World} {g : Nat} {t : TypeId} {cs : Array Value} (h : Bk w g t cs) (i : Nat) : w.frozen? ⟨g, i, none⟩ = false := frozen_of_row w g i cs t h
theorem Bk.below {w w' : World} {g B : Nat} {t : TypeId} {cs : Array Value} (h : Bk w g t cs) (hb : Below B w w') (hg : g < B) : Bk w' g t cs := (hb.block g hg).trans h
theorem Bk.new (w : World) (t : TypeId) (cs : Array Value) : Bk (w.alloc (.cells cs t)) w.heap.size t cs := heap_alloc_new w _
theorem Bk.alloc {w : World} {g : Nat} {t : TypeId} {cs : Array Value} (h : Bk w g t cs) (o : Obj) : Bk (w.alloc o) g t cs := (Below.heap_alloc w o g h.lt).trans h
theorem Bk.set_ {w : World} {g : Nat} {t : TypeId} {cs : Array Value} (h : Bk w g t cs) (i : Nat) (v : Value) : Bk (w.setCell ⟨g, i, none⟩ v) g t (cs.setIfInBounds i v) := heap_setCell_same w g i cs t v h
theorem Bk.far {w : World} {g : Nat} {t : TypeId} {cs : Array Value} (h : Bk w g t cs) (p : Addr) (hp : g ≠ p.block) (v : Value) : Bk (w.setCell p v) g t cs := (heap_setCell_other w p g v hp).trans h
theorem Bk.drewN {w : World} {g : Nat} {t : TypeId} {cs : Array Value} (h : Bk w g t cs) (n : Nat) : Bk (w.drewN n) g t cs := h
theorem Bk.drew {w : World} {g : Nat} {t : TypeId} {cs : Array Value} (h : Bk w g t cs) : Bk w.drew g t cs := h

/-- The package's table of predictors is laid. -/
structure Laid (w : World) : Prop where
  lt : 0 < w.heap.size
  c0 : ∀ p, p < 3 → w.cell? ⟨0, p * 2, none⟩ = some (.int .i64 (pred0 p))
  c1 : ∀ p, p < 3 → w.cell? ⟨0, p * 2 + 1, none⟩ = some (.int .i64 (pred1 p))
theorem Laid.below {w w' : World} {B : Nat} (h : Laid w) (hb : Below B w w') (hB : 0 < B) : Laid w' :=
  ⟨Nat.lt_of_lt_of_le h.lt hb.size, fun p hp => (hb.cell hB).trans (h.c0 p hp), fun p hp => (hb.cell hB).trans (h.c1 p hp)⟩
theorem Laid.later {w w' : World} (h : Laid w) (hb : Below w.heap.size w w') : Laid w' := h.below hb h.lt

theorem Laid.drew {w : World} (h : Laid w) : Laid w.drew := ⟨h.lt, h.c0, h.c1⟩
theorem Laid.drewN {w : World} (h : Laid w) (n : Nat) : Laid (w.drewN n) := ⟨h.lt, h.c0, h.c1⟩

theorem expected_any (arr : Array Value) (xs : List Int) (i p : Nat) (M : Int) (w : World) (hw : Laid w) (h : Is8 arr xs) (hb : Bnd xs M) (hM : 0 ≤ M) (hM2 : M ≤ 1000000000000) (hi : i < 8) (hp : p < 3) :
    Calls Tryz.prog 57 #[.agg arr, .int .i64 i, .int .i64 p] w fun e w' => e = .returned (.int .i64 (expd xs i p)) ∧ Below w.heap.size w w' :=
  expected_core arr xs i p _ _ M w h hb hM hM2 hi hp hw.lt (by unfold pred0; split <;> (try split) <;> omega) (by unfold pred1; split <;> (try split) <;> omega) (hw.c0 p hp) (hw.c1 p hp)

theorem Is8.lit {arr : Array Value} {xs : List Int} (h : Is8 arr xs) : arr = #[.int .i64 (xs.getD 0 0), .int .i64 (xs.getD 1 0), .int .i64 (xs.getD 2 0), .int .i64 (xs.getD 3 0), .int .i64 (xs.getD 4 0), .int .i64 (xs.getD 5 0), .int .i64 (xs.getD 6 0), .int .i64 (xs.getD 7 0)] := by
  apply Array.ext_getElem?
  intro j
  rcases Nat.lt_or_ge j 8 with hj | hj
  · rw [h.at_ j hj]
    match j, hj with
    | 0, _ => rfl
    | 1, _ => rfl
    | 2, _ => rfl
    | 3, _ => rfl
    | 4, _ => rfl
    | 5, _ => rfl
    | 6, _ => rfl
    | 7, _ => rfl
  · rw [Array.getElem?_eq_none (by rw [h.size]; exact hj), Array.getElem?_eq_none (by simpa using hj)]

theorem Is8.set_ {arr : Array Value} {xs : List Int} (h : Is8 arr xs) (k : Nat) (v : Int) : Is8 (arr.setIfInBounds k (.int .i64 v)) (xs.set k v) := by
  refine ⟨by simp [h.size], by simp [h.len], fun j hj => ?_⟩
  rw [Array.getElem?_setIfInBounds]
  by_cases hkj : k = j
  · subst hkj
    simp [h.size, hj, List.getD_eq_getElem?_getD, h.len]
  · rw [if_neg hkj, h.at_ j hj]
    simp [List.getD_eq_getElem?_getD, List.getElem?_set, hkj]
theorem Is8.one {arr : Array Value} {xs : List Int} (h : Is8 arr xs) : arr.all (·.oneCell') = true := by
  rw [h.lit]; simp [Value.oneCell']

abbrev zero8 : Array Value := #[.int .i64 0, .int .i64 0, .int .i64 0, .int .i64 0, .int .i64 0, .int .i64 0, .int .i64 0, .int .i64 0]
theorem Is8.zsize {arr : Array Value} {xs : List Int} (h : Is8 arr xs) : zero8.size = arr.size := by rw [h.size]; rfl
theorem zero8_is (xs : List Int) (p : Nat) : Is8 zero8 (upto (foldeds xs p) 0) := by
  refine ⟨rfl, by rw [upto_length, foldeds_length], fun j hj => ?_⟩
  rw [upto_at _ _ _ (by rw [foldeds_length]; exact hj), if_neg (by omega)]
  match j, hj with
  | 0, _ => rfl
  | 1, _ => rfl
  | 2, _ => rfl
  | 3, _ => rfl
  | 4, _ => rfl
  | 5, _ => rfl
  | 6, _ => rfl
  | 7, _ => rfl

set_option maxRecDepth 100000 in
theorem foldedOf_any (arr : Array Value) (xs : List Int) (p : Nat) (w : World) (hw : Laid w) (h : Is8 arr xs) (hb : Bnd xs 32767) (hp : p < 3) :
    Calls Tryz.prog 34 #[.agg arr, .int .i64 p] w fun e w' => ∃ us, e = .returned (.agg us) ∧ Is8 us (foldeds xs p) ∧ Below w.heap.size w w' := by
  have HW := Lib.hid hw; clear hw
  have H := Lib.hid h; clear h
  have HB := Lib.hid hb; clear hb
  go_enter Tryz.func34, Tryz.ntmps34
  go_wp2
  go_loopw [8] (fun i wr => ∃ (k : Nat) (cur : Array Value), k ≤ 8 ∧ i = .int .i64 k ∧ Hid (Bk wr w.heap.size 22 arr) ∧ Hid (Bk wr (w.heap.size + 1 + 1) 22 cur) ∧ Hid (Is8 cur (upto (foldeds xs p) k)) ∧ Hid (Below w.heap.size w wr) ∧ Hid (∃ z, Bk wr (w.heap.size + 1) 22 z ∧ z.size = 8) ∧ w.heap.size + 1 + 1 < wr.heap.size) (fun i _ => 8 - (intOf i).toNat)
  case atStart =>
    refine ⟨0, zero8, Nat.zero_le _, rfl, ((Bk.new _ _ _).alloc _).alloc _, ?_, ?_, ((((Below.refl _ _).alloc (Nat.le_refl _) _).alloc (by simp) _).alloc (by simp; omega) _), ⟨zero8, ?_, rfl⟩, by simp⟩
    · exact (by simpa using Bk.new ((w.alloc (.cells arr 22)).alloc (.cells zero8 22)) 22 zero8 : Bk (((w.alloc (.cells arr 22)).alloc (.cells zero8 22)).alloc (.cells zero8 22)) (w.heap.size + 1 + 1) 22 zero8)
    · exact zero8_is xs p
    · exact (by simpa using (Bk.new (w.alloc (.cells arr 22)) 22 zero8).alloc (.cells zero8 22) : Bk (((w.alloc (.cells arr 22)).alloc (.cells zero8 22)).alloc (.cells zero8 22)) (w.heap.size + 1) 22 zero8)
  case round =>
    obtain ⟨k, cur, hk, rfl, hx, hc, hcur, hbw, hz, hsz⟩ := hrel
    by_cases hlt : k < 8
    · obtain ⟨x, hxk⟩ : ∃ x, xs.getD k 0 = x := ⟨_, rfl⟩
      have hcell : wr.cell? ⟨w.heap.size, k, none⟩ = some (.int .i64 x) := by rw [hx.out.cell, H.out.at_ k hlt, hxk]
      have HXK := Lib.hid hxk
      clear hxk
      have hwr : Hid (Laid wr) := HW.out.later hbw.out
      obtain ⟨a0, a1, a2, a3, a4, a5, a6, a7, harr⟩ : ∃ a0 a1 a2 a3 a4 a5 a6 a7 : Int, arr = #[.int .i64 a0, .int .i64 a1, .int .i64 a2, .int .i64 a3, .int .i64 a4, .int .i64 a5, .int .i64 a6, .int .i64 a7] := ⟨_, _, _, _, _, _, _, _, H.out.lit⟩
      have c0 : wr.cell? ⟨w.heap.size, 0, none⟩ = some (.int .i64 a0) := by rw [hx.out.cell, harr]; rfl
      have c1 : wr.cell? ⟨w.heap.size, 1, none⟩ = some (.int .i64 a1) := by rw [hx.out.cell, harr]; rfl
      have c2 : wr.cell? ⟨w.heap.size, 2, none⟩ = some (.int .i64 a2) := by rw [hx.out.cell, harr]; rfl
      have c3 : wr.cell? ⟨w.heap.size, 3, none⟩ = some (.int .i64 a3) := by rw [hx.out.cell, harr]; rfl
      have c4 : wr.cell? ⟨w.heap.size, 4, none⟩ = some (.int .i64 a4) := by rw [hx.out.cell, harr]; rfl
      have c5 : wr.cell? ⟨w.heap.size, 5, none⟩ = some (.int .i64 a5) := by rw [hx.out.cell, harr]; rfl
      have c6 : wr.cell? ⟨w.heap.size, 6, none⟩ = some (.int .i64 a6) := by rw [hx.out.cell, harr]; rfl
      have c7 : wr.cell? ⟨w.heap.size, 7, none⟩ = some (.int .i64 a7) := by rw [hx.out.cell, harr]; rfl
      have H8 : Hid (Is8 #[.int .i64 a0, .int .i64 a1, .int .i64 a2, .int .i64 a3, .int .i64 a4, .int .i64 a5, .int .i64 a6, .int .i64 a7] xs) := by show Is8 _ _; rw [← harr]; exact H.out
      have hblk : w.heap.size < wr.heap.size := by omega
      clear harr
      obtain ⟨E, hE⟩ : ∃ E, expd xs k p = E := ⟨_, rfl⟩
      have hEb := expd_bd xs k p 32767 HB.out (by omega)
      rw [hE] at hEb
      have hxb := HB.out k
      rw [HXK.out] at hxb
      have C : Hid (∀ W, Laid W → Calls Tryz.prog 57 #[.agg #[.int .i64 a0, .int .i64 a1, .int .i64 a2, .int .i64 a3, .int .i64 a4, .int .i64 a5, .int .i64 a6, .int .i64 a7], .int .i64 k, .int .i64 p] W fun e w' => e = .returned (.int .i64 E) ∧ Below W.heap.size W w') :=
        fun W hW => by rw [← hE]; exact expected_any _ xs k p 32767 W hW H8.out HB.out (by omega) (by omega) hlt hp
      have HE := Lib.hid hE
      clear hE
      go_wp2_with fail
      go_region_held3 (fun w' => w'.cell? ⟨w.heap.size, k, none⟩ = some (.int .i64 x) ∧ w'.cell? ⟨w.heap.size, 0, none⟩ = some (.int .i64 a0) ∧ w'.cell? ⟨w.heap.size, 1, none⟩ = some (.int .i64 a1) ∧ w'.cell? ⟨w.heap.size, 2, none⟩ = some (.int .i64 a2) ∧ w'.cell? ⟨w.heap.size, 3, none⟩ = some (.int .i64 a3) ∧ w'.cell? ⟨w.heap.size, 4, none⟩ = some (.int .i64 a4) ∧ w'.cell? ⟨w.heap.size, 5, none⟩ = some (.int .i64 a5) ∧ w'.cell? ⟨w.heap.size, 6, none⟩ = some (.int .i64 a6) ∧ w'.cell? ⟨w.heap.size, 7, none⟩ = some (.int .i64 a7))
        (first | go_keep | (go_split_ands; refine ⟨?_, ?_, ?_, ?_, ?_, ?_, ?_, ?_, ?_⟩ <;> (rw [hb.cell (by simpa using hblk)]; assumption)))
        (first | (go_at_call 57; refine (C.out _ hwr.out.drew).mono ?_; rintro e w' ⟨rfl, hb⟩))
      have hwrap : IntKind.i64.wrap (x - E) = x - E := IntWalk.i64_in _ (by omega)
      rw [hwrap]
      clear hwrap
      have hf8 := foldeds_at xs p k hlt
      rw [HXK.out, HE.out] at hf8
      obtain ⟨r, hr⟩ : ∃ r, x - E = r := ⟨_, rfl⟩
      rw [hr] at hf8 ⊢
      have hrb : -200000 ≤ r ∧ r ≤ 200000 := by omega
      have HF8 := Lib.hid hf8
      clear hf8 hr hEb hxb c0 c1 c2 c3 c4 c5 c6 c7 hcell
      have hc' : Hid (Bk w' (w.heap.size + 1 + 1) 22 cur) := (hc.out.drew).below hb (by simpa using hsz)
      have hx' : Hid (Bk w' w.heap.size 22 arr) := (hx.out.drew).below hb (by simpa using hblk)
      obtain ⟨z, hz1, hz2⟩ := hz.out
      have hz' : Hid (∃ z, Bk w' (w.heap.size + 1) 22 z ∧ z.size = 8) := ⟨z, (hz1.drew).below hb (by simp; omega), hz2⟩
      have hb' : Hid (Below w.heap.size w w') := (hbw.out.drew).trans (hb.mono (by simp; omega))
      have hsz' : w.heap.size + 1 + 1 < w'.heap.size := Nat.lt_of_lt_of_le hsz (by simpa using hb.size)
      clear hb hz1 hz2 hz hx hc hbw
      have hold : w'.cell? ⟨w.heap.size + 1 + 1, k, none⟩ = some (.int .i64 ((upto (foldeds xs p) k).getD k 0)) := by rw [hc'.out.cell]; exact hcur.out.at_ k hlt
      have hfr : w'.frozen? ⟨w.heap.size + 1 + 1, k, none⟩ = false := hc'.out.frozen k
      obtain ⟨o, ho⟩ : ∃ o, (upto (foldeds xs p) k).getD k 0 = o := ⟨_, rfl⟩
      rw [ho] at hold
      clear ho
      have fin : ∀ v, v = fold1 r → (Bk (w'.setCell ⟨w.heap.size + 1 + 1, k, none⟩ (.int .i64 v)) (w.heap.size + 1 + 1) 22 (cur.setIfInBounds k (.int .i64 v)) ∧ Is8 (cur.setIfInBounds k (.int .i64 v)) (upto (foldeds xs p) (k + 1))) := by
        intro v hv
        refine ⟨hc'.out.set_ _ _, ?_⟩
        rw [upto_step _ _ (by rw [foldeds_length]; exact hlt), HF8.out, ← hv]
        exact hcur.out.set_ k v
      have FIN := Lib.hid fin
      clear fin
      by_cases hr0 : 0 ≤ r
      · have h1 : ¬ (2 * r < -2 * r - 1) := by omega
        go_wp2
        go_roundw
        case rel =>
          obtain ⟨f1, f2⟩ := FIN.out (2 * r) (by unfold fold1; rw [if_pos hr0])
          obtain ⟨z, hz1, hz2⟩ := hz'.out
          exact ⟨k + 1, _, by omega, by go_num, hx'.out.far _ (by simp; omega) _, f1, f2, hb'.out.setCell (by simp; omega) _, ⟨z, hz1.far _ (by simp) _, hz2⟩, by simpa [World.setCell] using hsz'⟩
        case measure => simp [intOf]; omega
      · have h1 : (2 * r < -2 * r - 1) := by omega
        go_wp2
        go_roundw
        case rel =>
          obtain ⟨f1, f2⟩ := FIN.out (-2 * r - 1) (by unfold fold1; rw [if_neg hr0])
          obtain ⟨z, hz1, hz2⟩ := hz'.out
          exact ⟨k + 1, _, by omega, by go_num, hx'.out.far _ (by simp; omega) _, f1, f2, hb'.out.setCell (by simp; omega) _, ⟨z, hz1.far _ (by simp) _, hz2⟩, by simpa [World.setCell] using hsz'⟩
        case measure => simp [intOf]; omega
    · obtain rfl : k = 8 := by omega
      obtain ⟨z, hz1, hz2⟩ := hz.out
      have HZ := Lib.hid hz1
      have HZ2 := Lib.hid hz2
      clear hz1 hz2 hz
      go_wp2_with (first
        | (with_reducible refine wpList_load_row rfl 22 (.tmp 5) rfl (w.heap.size + 1 + 1) rfl 22 cur (0, 0) _ hc.out.heap arrUnder rfl hcur.out.info ?_)
        | (with_reducible refine wpList_store_row rfl 22 (.tmp 4) (.tmp 28) rfl (w.heap.size + 1) cur rfl rfl 22 z HZ.out.heap hcur.out.info (by rw [HZ2.out, hcur.out.size]) hcur.out.one ?_))
      have hg : Bk (wr.setRow (w.heap.size + 1) cur) (w.heap.size + 1) 22 cur := setRow_heap _ _ _ _ _ _ HZ.out
      refine bodyPost_ret (v := .agg cur) ?_ rfl ⟨cur, rfl, ?_, below_setRow hbw.out (by omega) _⟩
      · exact results_cell_row (fn := Tryz.f34) rfl _ _ (w.heap.size + 1) 22 cur (0, 0) _ rfl hg arrUnder rfl hcur.out.info
      have e := hcur.out
      have e2 := upto_all (foldeds xs p)
      rw [foldeds_length] at e2
      rw [e2] at e
      exact e

end Go.Proofs.YtkemoffagdilgaaGreatDoor

namespace Go.Proofs.YtkemoffagdilgaaGreatDoor
open Go.RowKit

theorem foldedOf_zero (arr : Array Value) (xs : List Int) (w : World) (hw : Laid w) (h : Is8 arr xs) (hb : Bnd xs 32767) :
    Calls Tryz.prog 34 #[.agg arr, .int .i64 0] w fun e w' => ∃ us, e = .returned (.agg us) ∧ Is8 us (foldeds xs 0) ∧ Below w.heap.size w w' :=
  foldedOf_any arr xs 0 w hw h hb (by omega)
theorem bitsFor_zero (arr : Array Value) (us : List Int) (w : World) (h : Is8 arr us) (hs : Small us) :
    Calls Tryz.prog 56 #[.agg arr, .int .i64 0] w fun e w' => e = .returned (.int .i64 (bitsF us 0)) ∧ Below w.heap.size w w' :=
  bitsFor_any arr us 0 w h hs (by omega)

set_option maxRecDepth 100000 in
set_option maxHeartbeats 1000000 in
theorem shortest_any (arr : Array Value) (xs : List Int) (w : World) (hw : Laid w) (h : Is8 arr xs) (hb : Bnd xs 32767) :
    Calls Tryz.prog 32 #[.agg arr] w fun e w' => e = .returned (.tuple #[.int .i64 ((shortS xs).1 : Nat), .int .i64 ((shortS xs).2.1 : Nat)]) ∧ Below w.heap.size w w' := by
  have HW := Lib.hid hw; clear hw
  have H := Lib.hid h; clear h
  have HB := Lib.hid hb; clear hb
  have w1 : Hid (Below w.heap.size w (w.alloc (.cells arr 22))) := (Below.refl _ _).alloc (Nat.le_refl _) _
  have l1 : Hid (Laid (w.alloc (.cells arr 22))) := HW.out.later w1.out
  have HS := Lib.hid (foldeds_small xs 0 HB.out)
  go_enter Tryz.func32, Tryz.ntmps32
  go_wp2_with (first
    | (with_reducible refine wpList_load_row rfl 22 (.tmp 1) rfl w.heap.size rfl 22 arr (0, 0) _ (heap_alloc_new w _) arrUnder rfl H.out.info ?_)
    | (go_at_call 34; refine (foldedOf_zero arr xs _ l1.out H.out HB.out).mono ?_; rintro e w2 ⟨us, rfl, hus, hb2⟩; have HUS := Lib.hid hus; clear hus; have HB2 := Lib.hid hb2; clear hb2)
    | (go_at_call 56; refine (bitsFor_zero us _ _ HUS.out HS.out).mono ?_; rintro e w3 ⟨rfl, hb3⟩; have HB3 := Lib.hid hb3; clear hb3))
  have hB3 : Hid (Below (w.heap.size + 1) (w.alloc (.cells arr 22)) w3) := (HB2.out.mono (by simp)).trans (HB3.out.mono (by have := HB2.out.size; simpa using this))
  have hx3 : Hid (Bk w3 w.heap.size 22 arr) := (Bk.new w _ _).below hB3.out (by omega)
  have hbw3 : Hid (Below w.heap.size w w3) := w1.out.trans (hB3.out.mono (by omega))
  have hsz3 : w.heap.size < w3.heap.size := hx3.out.lt
  clear HB2 HB3 hB3
  go_loopw [2, 3, 4, 12] (fun a b l i wr => ∃ p : Nat, p ≤ 3 ∧ i = .int .i64 p ∧ a = .int .i64 ((outerS xs (startS xs) p).1 : Nat) ∧ b = .int .i64 ((outerS xs (startS xs) p).2.1 : Nat) ∧ l = .int .i64 (outerS xs (startS xs) p).2.2 ∧ Hid (Bk wr w.heap.size 22 arr) ∧ Hid (Below w.heap.size w wr)) (fun _ _ _ i _ => 3 - (intOf i).toNat)
  case atStart => exact ⟨0, by omega, rfl, rfl, rfl, rfl, hx3, hbw3⟩
  case round =>
    obtain ⟨p, hp, rfl, rfl, rfl, rfl, hx, hbw⟩ := hrel
    by_cases hlt : p < 3
    · have hgood := (GoodS.start xs).outer p (by omega)
      obtain ⟨s, hs⟩ : ∃ s, outerS xs (startS xs) p = s := ⟨_, rfl⟩
      have hnext : Hid (outerS xs (startS xs) (p + 1) = innerS xs s p 18) := by show outerS xs (startS xs) (p + 1) = _; rw [← hs]; rfl
      rw [hs] at hgood ⊢
      clear hs
      have HG := Lib.hid hgood; clear hgood
      have lw : Hid (Laid wr) := HW.out.later hbw.out
      have hszr : w.heap.size < wr.heap.size := hx.out.lt
      have HSp := Lib.hid (foldeds_small xs p HB.out)
      go_wp2_with (first
        | (with_reducible refine wpList_load_row rfl 22 (.tmp 1) rfl w.heap.size rfl 22 arr (0, 0) _ hx.out.heap arrUnder rfl H.out.info ?_)
        | (go_at_call 34; refine (foldedOf_any arr xs p _ lw.out H.out HB.out hlt).mono ?_; rintro e w4 ⟨vs, rfl, hvs, hb4⟩; have HVS := Lib.hid hvs; clear hvs; have HB4 := Lib.hid hb4; clear hb4)
        | (with_reducible refine wpList_store_row rfl 22 (.tmp 6) (.tmp 17) rfl w4.heap.size vs rfl rfl 22 zero8 (heap_alloc_new w4 _) HVS.out.info HVS.out.zsize HVS.out.one ?_))
      obtain ⟨w5, hw5⟩ : ∃ w5, World.setRow (w4.alloc (.cells #[.int .i64 0, .int .i64 0, .int .i64 0, .int .i64 0, .int .i64 0, .int .i64 0, .int .i64 0, .int .i64 0] 22)) w4.heap.size vs = w5 := ⟨_, rfl⟩
      have hF : Hid (Bk w5 w4.heap.size 22 vs) := by show Bk _ _ _ _; rw [← hw5]; exact setRow_heap _ _ _ _ _ _ (heap_alloc_new w4 _)
      have hb5 : Below w4.heap.size w4 w5 := by rw [← hw5]; exact below_setRow ((Below.refl _ _).alloc (Nat.le_refl _) _) (Nat.le_refl _) _
      have hb45 : Below wr.heap.size wr w5 := HB4.out.trans (hb5.mono HB4.out.size)
      have hx5 : Hid (Bk w5 w.heap.size 22 arr) := hx.out.below hb45 hszr
      have hbw5 : Hid (Below w.heap.size w w5) := hbw.out.trans (hb45.mono (by omega))
      have hlt5 : w.heap.size < w4.heap.size := Nat.lt_of_lt_of_le hszr HB4.out.size
      rw [hw5]
      clear hw5 HB4 hb5 hb45
      go_loopw [2, 3, 4, 18] (fun a b l i wr => ∃ k : Nat, k ≤ 18 ∧ i = .int .i64 k ∧ a = .int .i64 ((innerS xs s p k).1 : Nat) ∧ b = .int .i64 ((innerS xs s p k).2.1 : Nat) ∧ l = .int .i64 (innerS xs s p k).2.2 ∧ Hid (Bk wr w.heap.size 22 arr) ∧ Hid (Bk wr w4.heap.size 22 vs) ∧ Hid (Below w.heap.size w wr)) (fun _ _ _ i _ => 18 - (intOf i).toNat)
      case atStart => exact ⟨0, by omega, rfl, rfl, rfl, rfl, hx5, hF, hbw5⟩
      case round =>
        clear hx hbw lw hszr hx5 hF hbw5
        obtain ⟨k, hk, rfl, rfl, rfl, rfl, hx, hF, hbw⟩ := hrel
        by_cases hlk : k < 18
        · have hgood := HG.out.inner p hlt k (by omega)
          obtain ⟨t, ht⟩ : ∃ t, innerS xs s p k = t := ⟨_, rfl⟩
          have hnx : Hid (innerS xs s p (k + 1) = stepS xs t p k) := by show innerS xs s p (k + 1) = _; rw [← ht]; rfl
          rw [ht] at hgood ⊢
          clear ht
          have hbd := bitsF_bd xs p k HB.out hlk
          obtain ⟨n, hn⟩ : ∃ n, bitsF (foldeds xs p) k = n := ⟨_, rfl⟩
          rw [hn] at hbd
          have C : Hid (∀ W, Calls Tryz.prog 56 #[.agg vs, .int .i64 k] W fun e w' => e = .returned (.int .i64 n) ∧ Below W.heap.size W w') := fun W => by rw [← hn]; exact bitsFor_any vs _ k W HVS.out HSp.out (by omega)
          have HN := Lib.hid hn
          clear hn
          have hFl := hF.out.lt
          have hxl := hx.out.lt
          by_cases hless : n < t.2.2
          · go_wp2_with (first
              | (with_reducible refine wpList_load_row rfl 22 (.tmp 6) rfl w4.heap.size rfl 22 vs (0, 0) _ hF.out.heap arrUnder rfl HVS.out.info ?_)
              | (go_at_call 56; refine (C.out _).mono ?_; rintro e w6 ⟨rfl, hb6⟩; have HB6 := Lib.hid hb6; clear hb6))
            go_roundw
            case rel =>
              have e : stepS xs t p k = (p, k, n) := by unfold stepS; rw [HN.out, if_pos hless]
              exact ⟨k + 1, by omega, by go_num, by rw [hnx.out, e], by rw [hnx.out, e], by rw [hnx.out, e], hx.out.below HB6.out hxl, hF.out.below HB6.out hFl, hbw.out.trans (HB6.out.mono (by omega))⟩
            case measure => simp [intOf]; omega
          · go_wp2_with (first
              | (with_reducible refine wpList_load_row rfl 22 (.tmp 6) rfl w4.heap.size rfl 22 vs (0, 0) _ hF.out.heap arrUnder rfl HVS.out.info ?_)
              | (go_at_call 56; refine (C.out _).mono ?_; rintro e w6 ⟨rfl, hb6⟩; have HB6 := Lib.hid hb6; clear hb6))
            go_roundw
            case rel =>
              have e : stepS xs t p k = t := by unfold stepS; rw [HN.out, if_neg (by omega)]
              exact ⟨k + 1, by omega, by go_num, by rw [hnx.out, e], by rw [hnx.out, e], by rw [hnx.out, e], hx.out.below HB6.out hxl, hF.out.below HB6.out hFl, hbw.out.trans (HB6.out.mono (by omega))⟩
            case measure => simp [intOf]; omega
        · obtain rfl : k = 18 := by omega
          go_wp2
          go_roundw
          case rel => exact ⟨p + 1, by omega, by go_num, by rw [hnext.out], by rw [hnext.out], by rw [hnext.out], hx, hbw⟩
          case measure => simp [intOf]; omega
    · obtain rfl : p = 3 := by omega
      go_wp2
      go_ret2
      exact ⟨rfl, hbw.out⟩

end Go.Proofs.YtkemoffagdilgaaGreatDoor

