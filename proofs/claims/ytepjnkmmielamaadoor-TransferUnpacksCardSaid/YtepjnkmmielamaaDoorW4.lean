import Derived.Test.YtepjnkmmielamaaDoorW3
import Derived.Test.YtepjnkmmielamaaDoorGA
namespace Go.Proofs.YtepjnkmmielamaaDoor
open Go.RowKit

theorem intInfo : (Tryd.prog.info? 3).map (fun i => (i.zero, i.size, i.bytes)) = some (some (.int .i64 0), 1, 8) := by kernel_rfl
theorem intsUnder : Tryd.prog.underlying 48 = some (.slice 3) := by kernel_rfl

theorem and_one_nat (a : Nat) (ha : a < 9223372036854775808) : bits BinOp.and IntKind.i64 (a : Int) 1 = ((a % 2 : Nat) : Int) := by
  have hx : a &&& 1 = a % 2 := Nat.and_one_is_mod a
  show IntKind.i64.wrap ((BitVec.ofInt 64 (a : Int) &&& BitVec.ofInt 64 (1 : Int)).toNat : Int) = _
  have e1 : (BitVec.ofInt 64 (a : Int)).toNat = a := by
    rw [BitVec.ofInt_natCast, BitVec.toNat_ofNat]; exact Nat.mod_eq_of_lt (by omega)
  have e2 : (BitVec.ofInt 64 (1 : Int)).toNat = 1 := by decide
  rw [BitVec.toNat_and, e1, e2, hx, IntKind.wrap_i64]
  omega
theorem bit_val (m j : Nat) (hm : m < 1000001) : bits BinOp.and IntKind.i64 ((m : Int) / 2 ^ j) 1 = ((m / 2 ^ j % 2 : Nat) : Int) := by
  have e2 : ((m : Int) / 2 ^ j) = ((m / 2 ^ j : Nat) : Int) := by simp
  rw [e2]
  exact and_one_nat _ (Nat.lt_of_le_of_lt (Nat.div_le_self _ _) (by omega))

set_option maxRecDepth 100000 in
theorem appendBits_any (base : Nat) (v : Value) (n : Nat) (xs : List Int) (m c : Nat) (w : World) (hown : w.ownsRow base 3 1 v n (xs.map (Value.int .i64))) (hb : base ≤ w.heap.size)
    (hm : m < 1000001) (hc : c ≤ 64) (hn : n ≤ 10000000) :
    Calls Tryd.prog 103 #[v, .int .i64 m, .int .i64 c] w fun e w' => ∃ v', e = .returned v' ∧ w'.ownsRow base 3 1 v' (n + c) ((xs ++ bitsOf m c).map (Value.int .i64)) ∧ Below base w w' := by
  obtain ⟨i0, hi, hz0, hz1, hz2⟩ := info_parts intInfo
  go_enter Tryd.func103, Tryd.ntmps103
  go_wp2
  go_loopw [0, 7] (fun s i wr => ∃ k : Nat, k ≤ c ∧ i = .int .i64 ((c : Int) - 1 - k) ∧ wr.ownsRow base 3 1 s (n + k) ((xs ++ (bitsOf m c).take k).map (Value.int .i64)) ∧ Below base w wr) (fun _ i _ => (intOf i + 1).toNat)
  case atStart => exact ⟨0, Nat.zero_le _, by simp, by simpa using hown, Below.refl _ _⟩
  case round =>
    obtain ⟨k, hk, rfl, ho, hbw⟩ := hrel
    have HO := Lib.hid ho; clear ho
    by_cases hlt : k < c
    · obtain ⟨j, hj⟩ : ∃ j : Nat, (c : Int) - 1 - k = j := ⟨c - 1 - k, by omega⟩
      rw [hj]
      have HJ := Lib.hid hj
      have hj64 : j < 64 := by omega
      clear hj
      have hv := bit_val m j hm
      obtain ⟨B, hB⟩ : ∃ B : Int, B = ((m / 2 ^ j % 2 : Nat) : Int) := ⟨_, rfl⟩
      rw [← hB] at hv
      have HB := Lib.hid hB
      clear hB
      go_wp2_with (at_builtin; refine wpList_append_own _ rfl (.tmp 14) (.tmp 19) 48 rfl base 3 i0 (.int .i64 0) 1 8 intsUnder hi hz0 hz1 hz2 rfl (by decide) _ _ _ rfl (HO.out.alloc _) ⟨wr.heap.size, 0, none⟩ 1 1 [.int .i64 B] rfl rfl ?c1 ?c2 ?c3 ?c4 ?c5 ?_)
      case c1 =>
        intro q u hq
        match q, hq with
        | 0, hq => simp at hq; subst hq; simp [Addr.add]
      case c2 => intro u hu; simp at hu; subst hu; rfl
      case c3 => unfold maxLen; omega
      case c4 => omega
      case c5 => have := hbw.size; simp; omega
      intro v' w1 hown' hgrow _
      have hb1 : Below base w w1 := (hbw.alloc (by have := hbw.size; omega) _).grown hgrow (by have := hbw.size; simp; omega) (fun q hq => (HO.out.lt q hq).1)
      have HO1 : Hid (w1.ownsRow base 3 1 v' (n + (k + 1)) ((xs ++ (bitsOf m c).take (k + 1)).map (Value.int .i64))) := by
        have e : c - 1 - k = j := by have := HJ.out; omega
        rw [bitsOf_take m c k hlt, e, ← HB.out]
        show w1.ownsRow _ _ _ _ _ _
        simpa [List.map_append, List.append_assoc, Nat.add_assoc, List.map_take] using hown'
      clear hown' hgrow
      go_wp2
      go_roundw
      case rel => exact ⟨k + 1, by omega, by have := HJ.out; congr 1; omega, HO1.out, hb1⟩
      case measure => simp [intOf] <;> omega
    · have h0 : ((c : Int) - 1 - k) = -1 := by omega
      rw [h0]
      obtain rfl : k = c := by omega
      go_wp2
      go_ret
      refine ⟨_, rfl, ?_, hbw⟩
      have := HO.out
      rw [List.take_of_length_le (by rw [bitsOf_length]; omega)] at this
      exact this

end Go.Proofs.YtepjnkmmielamaaDoor
