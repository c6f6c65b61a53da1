import Derived.Test.YtepcciodhppbnaaE0

namespace Go.Proofs.Ytepcciodhppbnaa
open Go.RowKit

theorem lit1 (W : World) (b : Nat) (x : Int) (h : W.cell? ⟨b, 0, none⟩ = some (.int .i64 x)) : RdI W (some ⟨b, 0, none⟩) 1 [x] :=
  ⟨rfl, fun _ => ⟨_, rfl, World.block_lt_of_cell? _ _ h, fun j hj => by obtain rfl : j = 0 := by omega
                                                                        rw [addOff]; exact h⟩⟩
theorem lit2 (W : World) (b : Nat) (x y : Int) (h : W.cell? ⟨b, 0, none⟩ = some (.int .i64 x)) (h' : W.cell? ⟨b, 1, none⟩ = some (.int .i64 y)) : RdI W (some ⟨b, 0, none⟩) 2 [x, y] :=
  ⟨rfl, fun _ => ⟨_, rfl, World.block_lt_of_cell? _ _ h, fun j hj => by
    rcases (by omega : j = 0 ∨ j = 1) with rfl | rfl
    · rw [addOff]; exact h
    · rw [addOff]; exact h'⟩⟩
theorem lit3 (W : World) (b : Nat) (x y z : Int) (h : W.cell? ⟨b, 0, none⟩ = some (.int .i64 x)) (h' : W.cell? ⟨b, 1, none⟩ = some (.int .i64 y)) (h'' : W.cell? ⟨b, 2, none⟩ = some (.int .i64 z)) : RdI W (some ⟨b, 0, none⟩) 3 [x, y, z] :=
  ⟨rfl, fun _ => ⟨_, rfl, World.block_lt_of_cell? _ _ h, fun j hj => by
    rcases (by omega : j = 0 ∨ j = 1 ∨ j = 2) with rfl | rfl | rfl
    · rw [addOff]; exact h
    · rw [addOff]; exact h'
    · rw [addOff]; exact h''⟩⟩
theorem lit4 (W : World) (b : Nat) (x y z u : Int) (h : W.cell? ⟨b, 0, none⟩ = some (.int .i64 x)) (h' : W.cell? ⟨b, 1, none⟩ = some (.int .i64 y)) (h'' : W.cell? ⟨b, 2, none⟩ = some (.int .i64 z)) (h''' : W.cell? ⟨b, 3, none⟩ = some (.int .i64 u)) : RdI W (some ⟨b, 0, none⟩) 4 [x, y, z, u] :=
  ⟨rfl, fun _ => ⟨_, rfl, World.block_lt_of_cell? _ _ h, fun j hj => by
    rcases (by omega : j = 0 ∨ j = 1 ∨ j = 2 ∨ j = 3) with rfl | rfl | rfl | rfl
    · rw [addOff]; exact h
    · rw [addOff]; exact h'
    · rw [addOff]; exact h''
    · rw [addOff]; exact h'''⟩⟩

/-- What goes in a quiet region. -/
theorem quietP {P : Program} {f : FuncId} {args : Array Value} {w : World} {n : Nat} {v : Value}
    (h : Calls P f args (w.drewN n) fun e w' => e = .returned v ∧ w.drewN n = w') : Calls P f args (w.drewN n) fun e w'' => e = .returned v ∧ ∃ m, w'' = w.drewN m :=
  h.mono fun _ _ ⟨he, hm⟩ => ⟨he, n, hm.symm⟩
theorem quietD {P : Program} {f : FuncId} {args : Array Value} {w : World} {n : Nat} {v : Value}
    (h : Calls P f args (w.drewN n) fun e w' => e = .returned v ∧ ∃ k, w' = (w.drewN n).drewN k) : Calls P f args (w.drewN n) fun e w'' => e = .returned v ∧ ∃ m, w'' = w.drewN m := Calls.quiet_of h

theorem retI {a b : Int} (h : a = b) : Ending.returned (.int .i64 a) = Ending.returned (.int .i64 b) := by rw [h]
theorem retB {a b : Bool} (h : a = b) : Ending.returned (.bool a) = Ending.returned (.bool b) := by rw [h]
theorem retI2 {a b c d : Int} (h : a = c) (k : b = d) : Ending.returned (.tuple #[.int .i64 a, .int .i64 b]) = Ending.returned (.tuple #[.int .i64 c, .int .i64 d]) := by rw [h, k]
theorem retI3 {a b c d e f : Int} (h : a = c) (k : b = d) (l : e = f) : Ending.returned (.tuple #[.int .i64 a, .int .i64 b, .int .i64 e]) = Ending.returned (.tuple #[.int .i64 c, .int .i64 d, .int .i64 f]) := by rw [h, k, l]
theorem retIB {a c : Int} {b d : Bool} (h : a = c) (k : b = d) : Ending.returned (.tuple #[.int .i64 a, .bool b]) = Ending.returned (.tuple #[.int .i64 c, .bool d]) := by rw [h, k]
theorem ne0_of {F : Int} (h : (F != 0) = true) : ¬ F = 0 := by simpa using h
theorem eq0_of {F : Int} (h : (F != 0) = false) : F = 0 := by simpa using h

/-! ### numbers -/
theorem down_any (n d : Int) (hn : -4611686018427387904 ≤ n ∧ n ≤ 4611686018427387904) (hd : 0 < d ∧ d ≤ 4611686018427387904) (w : World) :
    Calls Try.prog 82 #[.int .i64 n, .int .i64 d] w fun e w' => e = .returned (.int .i64 (n / d)) ∧ w = w' := by
  have hf := Lib.hid (tdiv_floor n d hd.1)
  have hq : -4611686018427387904 ≤ n.tdiv d ∧ n.tdiv d ≤ 4611686018427387904 := by
    have h1 := Int.natAbs_tdiv_le_natAbs n d
    omega
  have HQ := Lib.hid hq
  clear hq
  have hd0 : d ≠ 0 := by omega
  have hd1 : (d == 0) = false := by simpa using hd0
  go_enter Try.func82, Try.ntmps82
  go_wp2
  all_goals go_ret
  · have h : n.tmod d < 0 := by assumption
    have h2 := hf.out
    have h3 := HQ.out
    rw [if_pos h] at h2
    refine ⟨?_, rfl⟩
    show Ending.returned (Value.int .i64 (wrap64 (n.tdiv d - 1))) = _
    rw [IntWalk.wrap64_in _ ⟨by omega, by omega⟩, h2]
  · have h : 0 ≤ n.tmod d := by assumption
    have h2 := hf.out
    rw [if_neg (by omega)] at h2
    refine ⟨?_, rfl⟩
    show Ending.returned (Value.int .i64 (n.tdiv d)) = _
    rw [h2]

theorem floor_any (n d : Int) (hn : -4611686018427387904 ≤ n ∧ n ≤ 4611686018427387904) (hd : 0 < d ∧ d ≤ 4611686018427387904) (w : World) :
    Calls Try.prog 43 #[.int .i64 n, .int .i64 d] w fun e w' => e = .returned (.int .i64 (n / d)) ∧ w = w' := by
  have hf := Lib.hid (tdiv_floor n d hd.1)
  have hq : -4611686018427387904 ≤ n.tdiv d ∧ n.tdiv d ≤ 4611686018427387904 := by
    have h1 := Int.natAbs_tdiv_le_natAbs n d
    omega
  have HQ := Lib.hid hq
  clear hq
  have hd0 : d ≠ 0 := by omega
  have hd1 : (d == 0) = false := by simpa using hd0
  go_enter Try.func43, Try.ntmps43
  go_wp2
  all_goals go_ret
  · have h : n.tmod d < 0 := by assumption
    have h2 := hf.out
    have h3 := HQ.out
    rw [if_pos h] at h2
    refine ⟨?_, rfl⟩
    show Ending.returned (Value.int .i64 (wrap64 (n.tdiv d - 1))) = _
    rw [IntWalk.wrap64_in _ ⟨by omega, by omega⟩, h2]
  · have h : 0 ≤ n.tmod d := by assumption
    have h2 := hf.out
    rw [if_neg (by omega)] at h2
    refine ⟨?_, rfl⟩
    show Ending.returned (Value.int .i64 (n.tdiv d)) = _
    rw [h2]

theorem ediv_bd (n d : Int) (hn : -4611686018427387904 ≤ n ∧ n ≤ 4611686018427387904) (hd : 0 < d) : -4611686018427387904 ≤ n / d ∧ n / d ≤ 4611686018427387904 := by
  constructor
  · rw [Int.le_ediv_iff_mul_le hd]
    have : (-4611686018427387904) * d ≤ (-4611686018427387904) * 1 := Int.mul_le_mul_of_nonpos_left (by omega) (by omega)
    omega
  · have h1 : n / d < 4611686018427387904 + 1 := by
      rw [Int.ediv_lt_iff_lt_mul hd]
      have : (4611686018427387905 : Int) * 1 ≤ 4611686018427387905 * d := Int.mul_le_mul_of_nonneg_left (by omega) (by omega)
      omega
    omega

/-- A quotient, rounded up. -/
def upF (n d : Int) : Int := -((-n) / d)
theorem up_any (n d : Int) (hn : -4611686018427387904 ≤ n ∧ n ≤ 4611686018427387904) (hd : 0 < d ∧ d ≤ 4611686018427387904) (w : World) :
    Calls Try.prog 116 #[.int .i64 n, .int .i64 d] w fun e w' => e = .returned (.int .i64 (upF n d)) ∧ w = w' := by
  have C := Lib.hid (down_any (-n) d ⟨by omega, by omega⟩ hd w)
  have h1 : IntKind.i64.wrap (-n) = -n := IntWalk.i64_in _ (by omega)
  have hb := ediv_bd (-n) d ⟨by omega, by omega⟩ hd.1
  have HE : Hid (upF n d = -((-n) / d)) := rfl
  obtain ⟨q, hq⟩ : ∃ q, (-n) / d = q := ⟨_, rfl⟩
  rw [hq] at C hb HE
  have h2 : IntKind.i64.wrap (-q) = -q := IntWalk.i64_in _ (by omega)
  clear hq
  go_enter Try.func116, Try.ntmps116
  go_wp2_with (go_at_call 82; refine C.out.mono ?_; rintro e w' ⟨rfl, rfl⟩)
  go_ret
  exact ⟨by rw [HE.out]; rfl, rfl⟩
theorem ceil_any (n d : Int) (hn : -4611686018427387904 ≤ n ∧ n ≤ 4611686018427387904) (hd : 0 < d ∧ d ≤ 4611686018427387904) (w : World) :
    Calls Try.prog 36 #[.int .i64 n, .int .i64 d] w fun e w' => e = .returned (.int .i64 (upF n d)) ∧ w = w' := by
  have C := Lib.hid (floor_any (-n) d ⟨by omega, by omega⟩ hd w)
  have h1 : IntKind.i64.wrap (-n) = -n := IntWalk.i64_in _ (by omega)
  have hb := ediv_bd (-n) d ⟨by omega, by omega⟩ hd.1
  have HE : Hid (upF n d = -((-n) / d)) := rfl
  obtain ⟨q, hq⟩ : ∃ q, (-n) / d = q := ⟨_, rfl⟩
  rw [hq] at C hb HE
  have h2 : IntKind.i64.wrap (-q) = -q := IntWalk.i64_in _ (by omega)
  clear hq
  go_enter Try.func36, Try.ntmps36
  go_wp2_with (go_at_call 43; refine C.out.mono ?_; rintro e w' ⟨rfl, rfl⟩)
  go_ret
  exact ⟨by rw [HE.out]; rfl, rfl⟩
def absF (n : Int) : Int := if n < 0 then -n else n
theorem bsize_any (n : Int) (w : World) (h : -4611686018427387904 ≤ n ∧ n ≤ 4611686018427387904) :
    Calls Try.prog 26 #[.int .i64 n] w fun e w' => e = .returned (.int .i64 (absF n)) ∧ w = w' := size_any n w h
theorem rsize_any (n : Int) (w : World) (h : -4611686018427387904 ≤ n ∧ n ≤ 4611686018427387904) :
    Calls Try.prog 76 #[.int .i64 n] w fun e w' => e = .returned (.int .i64 (absF n)) ∧ w = w' := by
  have hw : IntKind.i64.wrap (-n) = -n := IntWalk.i64_in _ (by omega)
  unfold absF
  by_cases h0 : n < 0
  · have h1 : n < -n := by omega
    go_enter Try.func76, Try.ntmps76
    go_wp2
    go_ret
    exact ⟨by first | rfl | (rw [if_pos h0]; rfl), rfl⟩
  · have h1 : ¬ n < -n := by omega
    go_enter Try.func76, Try.ntmps76
    go_wp2
    go_ret
    exact ⟨by first | rfl | (rw [if_neg h0]; rfl), rfl⟩

theorem nearest_any (n d : Int) (hn : -1000000000000000000 ≤ n ∧ n ≤ 1000000000000000000) (hd : 0 < d ∧ d ≤ 1000000000000000000) (w : World) :
    Calls Try.prog 125 #[.int .i64 n, .int .i64 d] w fun e w' => e = .returned (.int .i64 ((2 * n + d) / (2 * d))) ∧ w = w' := by
  have h1 : IntKind.i64.wrap (2 * n) = 2 * n := IntWalk.i64_in _ (by omega)
  have h2 : IntKind.i64.wrap (2 * n + d) = 2 * n + d := IntWalk.i64_in _ (by omega)
  have h3 : IntKind.i64.wrap (2 * d) = 2 * d := IntWalk.i64_in _ (by omega)
  have C := Lib.hid (down_any (2 * n + d) (2 * d) ⟨by omega, by omega⟩ ⟨by omega, by omega⟩ w)
  go_enter Try.func125, Try.ntmps125
  go_wp2_with (go_at_call 82; refine C.out.mono ?_; rintro e w' ⟨rfl, rfl⟩)
  go_ret
  exact ⟨rfl, rfl⟩

theorem mod_any (n d : Int) (hn : -4611686018427387904 ≤ n ∧ n ≤ 4611686018427387904) (hd : 0 < d ∧ d ≤ 4611686018427387904) (w : World) :
    Calls Try.prog 56 #[.int .i64 n, .int .i64 d] w fun e w' => e = .returned (.int .i64 (n % d)) ∧ w = w' := by
  have hd0 : d ≠ 0 := by omega
  have hd1 : (d == 0) = false := by simpa using hd0
  have HM : Hid (n % d = if n.tmod d < 0 then n.tmod d + d else n.tmod d) := by
    show _ = _
    have e1 : 0 ≤ n % d := Int.emod_nonneg n (by omega)
    have e2 : n % d < d := Int.emod_lt_of_pos n (by omega)
    have e3 := Int.mul_ediv_add_emod n d
    have h1 := Int.mul_tdiv_add_tmod n d
    have h2 := Int.tmod_lt_of_pos n (b := d) (by omega)
    have h3 : -d < n.tmod d := by have h3 := Int.tmod_lt_of_pos (-n) (b := d) (by omega); rw [Int.neg_tmod] at h3; omega
    have hf := tdiv_floor n d hd.1
    split at hf
    · rw [if_pos (by assumption)]
      rw [← hf, Int.mul_sub, Int.mul_one] at e3; omega
    · rw [if_neg (by assumption)]
      rw [← hf] at e3; omega
  have hb : -d < n.tmod d ∧ n.tmod d < d := by
    have h2 := Int.tmod_lt_of_pos n (b := d) (by omega)
    have h3 : -d < n.tmod d := by have h3 := Int.tmod_lt_of_pos (-n) (b := d) (by omega); rw [Int.neg_tmod] at h3; omega
    exact ⟨h3, h2⟩
  have HB := Lib.hid hb
  clear hb
  go_enter Try.func56, Try.ntmps56
  go_wp2
  all_goals go_ret
  · have h : n.tmod d < 0 := by assumption
    have h2 := HM.out
    have h3 := HB.out
    rw [if_pos h] at h2
    refine ⟨?_, rfl⟩
    show Ending.returned (Value.int .i64 (wrap64 (n.tmod d + d))) = _
    rw [IntWalk.wrap64_in _ ⟨by omega, by omega⟩, h2]
  · have h : 0 ≤ n.tmod d := by assumption
    have h2 := HM.out
    rw [if_neg (by omega)] at h2
    refine ⟨?_, rfl⟩
    show Ending.returned (Value.int .i64 (n.tmod d)) = _
    rw [h2]

/-! ### errors -/
theorem when_any (b : Bool) (E : Int) (w : World) :
    Calls Try.prog 68 #[.bool b, .int .i64 E] w fun e w' => e = .returned (.int .i64 (if b = true then E else 0)) ∧ w = w' := by
  cases b
  all_goals
    go_enter Try.func68, Try.ntmps68
    go_wp2
    go_ret
    exact ⟨rfl, rfl⟩

/-- The error of a number, of numbers. -/
def rngE (lo hi : Int) (xs : List Int) : Int := if fromB lo hi xs = true then 0 else 2
theorem rngE_one (lo hi n : Int) : rngE lo hi [n] = if lo ≤ n ∧ n ≤ hi then 0 else 2 := by
  unfold rngE fromB
  by_cases h : lo ≤ n ∧ n ≤ hi
  · rw [if_pos h, if_pos (by simp [h.1, h.2])]
  · rw [if_neg h, if_neg (by simp; omega)]
theorem rngE_step (lo hi : Int) (xs : List Int) (k : Nat) (hk : k < xs.length) :
    rngE lo hi (xs.drop k) = if rngE lo hi [xs.getD k 0] = 0 then rngE lo hi (xs.drop (k + 1)) else rngE lo hi [xs.getD k 0] := by
  unfold rngE
  rw [fromB_step lo hi xs k hk]
  have e : fromB lo hi [xs.getD k 0] = (decide (lo ≤ xs.getD k 0) && decide (xs.getD k 0 ≤ hi)) := by simp [fromB]
  rw [e]
  cases (decide (lo ≤ xs.getD k 0) && decide (xs.getD k 0 ≤ hi)) <;> cases fromB lo hi (xs.drop (k + 1)) <;> rfl

theorem from_any (lo hi : Int) (w : World) :
    Calls Try.prog 63 #[.int .i64 lo, .int .i64 hi] w fun e w' => e = .returned (.func (.func 117) #[] #[.pointer (some ⟨w.heap.size, 0, none⟩), .pointer (some ⟨w.heap.size + 1, 0, none⟩)]) ∧ w' = (w.alloc (.cells #[.int .i64 lo] 3)).alloc (.cells #[.int .i64 hi] 3) := by
  go_enter Try.func63, Try.ntmps63
  go_wp2
  go_ret
  exact ⟨rfl, rfl⟩
theorem atMost_any (m : Int) (hm : -4611686018427387904 ≤ m ∧ m ≤ 4611686018427387904) (w : World) :
    Calls Try.prog 127 #[.int .i64 m] w fun e w' => e = .returned (.func (.func 117) #[] #[.pointer (some ⟨w.heap.size, 0, none⟩), .pointer (some ⟨w.heap.size + 1, 0, none⟩)]) ∧ w' = (w.alloc (.cells #[.int .i64 (-m)] 3)).alloc (.cells #[.int .i64 m] 3) := by
  have h1 : IntKind.i64.wrap (-m) = -m := IntWalk.i64_in _ (by omega)
  have C := Lib.hid (from_any (-m) m w)
  go_enter Try.func127, Try.ntmps127
  go_wp2_with (go_at_call 63; refine C.out.mono ?_; rintro e w' ⟨rfl, rfl⟩)
  go_ret
  exact ⟨rfl, rfl⟩
theorem from1_any (n lo hi : Int) (a b : Addr) (w : World) (ha : w.cell? a = some (.int .i64 lo)) (hb : w.cell? b = some (.int .i64 hi)) :
    Calls Try.prog 117 #[.int .i64 n, .pointer (some a), .pointer (some b)] w fun e w' => e = .returned (.int .i64 (rngE lo hi [n])) ∧ w = w' := by
  have HE := Lib.hid (rngE_one lo hi n)
  by_cases h1 : n < lo
  · have C := Lib.hid (when_any true 2 w)
    go_enter Try.func117, Try.ntmps117
    go_wp2_with (go_at_call 68; refine C.out.mono ?_; rintro e w' ⟨rfl, rfl⟩)
    go_ret
    exact ⟨by rw [HE.out, if_neg (by omega)]; rfl, rfl⟩
  · by_cases h2 : hi < n
    · have C := Lib.hid (when_any true 2 w)
      go_enter Try.func117, Try.ntmps117
      go_wp2_with (go_at_call 68; refine C.out.mono ?_; rintro e w' ⟨rfl, rfl⟩)
      go_ret
      exact ⟨by rw [HE.out, if_neg (by omega)]; rfl, rfl⟩
    · have C := Lib.hid (when_any false 2 w)
      go_enter Try.func117, Try.ntmps117
      go_wp2_with (go_at_call 68; refine C.out.mono ?_; rintro e w' ⟨rfl, rfl⟩)
      go_ret
      exact ⟨by rw [HE.out, if_pos (by omega)]; rfl, rfl⟩

/-- The first error of a list. -/
def firstNZ : List Int → Int
  | [] => 0
  | x :: xs => if x = 0 then firstNZ xs else x
theorem firstNZ_step (xs : List Int) (k : Nat) (hk : k < xs.length) : firstNZ (xs.drop k) = if xs.getD k 0 = 0 then firstNZ (xs.drop (k + 1)) else xs.getD k 0 := by
  rw [List.drop_eq_getElem_cons hk]
  simp only [firstNZ, List.getD_eq_getElem?_getD, List.getElem?_eq_getElem hk, Option.getD_some]
set_option maxHeartbeats 1000000 in
theorem firstError_any (A : Option Addr) (n c : Nat) (xs : List Int) (w : World) (hr : RdI w A n xs) (hn : n ≤ 9223372036854775806) :
    Calls Try.prog 62 #[.slice A n c] w fun e w' => e = .returned (.int .i64 (firstNZ xs)) ∧ w = w' := by
  have HR := Lib.hid hr; clear hr
  go_enter Try.func62, Try.ntmps62
  go_wp2
  go_loop [7] (fun i => ∃ k : Nat, k ≤ n ∧ i = .int .i64 k ∧ Hid (firstNZ xs = firstNZ (xs.drop k))) (fun i => n - (intOf i).toNat)
  case atStart => exact ⟨0, Nat.zero_le _, rfl, rfl⟩
  case round =>
    obtain ⟨k, hk, rfl, HF⟩ := hrel
    by_cases hlt : k < n
    · obtain ⟨ad, ha, _, hc⟩ := HR.out.2 (by omega)
      have hck := hc k hlt
      clear hc
      subst ha
      obtain ⟨x, hx⟩ : ∃ x, xs.getD k 0 = x := ⟨_, rfl⟩
      have hs := firstNZ_step xs k (by have := HR.out.1; omega)
      rw [hx] at hck hs
      have HS := Lib.hid hs; clear hs hx
      have hkI : (k : Int) < (n : Int) := by omega
      by_cases h0 : x = 0
      · subst h0
        go_wp2
        go_round
        case rel => exact ⟨k + 1, by omega, by go_num, by show _ = _; rw [HF.out, HS.out]; rfl⟩
        case measure => simp [intOf]; omega
      · have h1 : (x == 0) = false := by rw [beq_eq_false_iff_ne]; exact h0
        have h2 : (x != 0) = true := by rw [bne_iff_ne]; exact h0
        go_wp2
        go_ret
        exact ⟨by rw [HF.out, HS.out, if_neg h0]; rfl, rfl⟩
    · obtain rfl : n = k := by omega
      go_wp2
      go_ret
      exact ⟨by rw [HF.out, List.drop_eq_nil_of_le (by have := HR.out.1; omega)]; rfl, rfl⟩

set_option maxHeartbeats 1000000 in
theorem checkEach_any (A : Option Addr) (n c : Nat) (xs : List Int) (lo hi : Int) (a b : Addr) (w : World) (hr : RdI w A n xs) (hn : n ≤ 9223372036854775806) (ha : w.cell? a = some (.int .i64 lo)) (hb : w.cell? b = some (.int .i64 hi)) :
    Calls Try.prog 124 #[.slice A n c, .func (.func 117) #[] #[.pointer (some a), .pointer (some b)]] w fun e w' => e = .returned (.int .i64 (rngE lo hi xs)) ∧ w = w' := by
  have HR := Lib.hid hr; clear hr
  have C := Lib.hid (fun n => from1_any n lo hi a b w ha hb)
  clear ha hb
  go_enter Try.func124, Try.ntmps124
  go_wp2
  go_loop [10] (fun i => ∃ k : Nat, k ≤ n ∧ i = .int .i64 k ∧ Hid (rngE lo hi xs = rngE lo hi (xs.drop k))) (fun i => n - (intOf i).toNat)
  case atStart => exact ⟨0, Nat.zero_le _, rfl, rfl⟩
  case round =>
    obtain ⟨k, hk, rfl, HF⟩ := hrel
    by_cases hlt : k < n
    · obtain ⟨ad, ha, _, hc⟩ := HR.out.2 (by omega)
      have hck := hc k hlt
      clear hc
      subst ha
      obtain ⟨x, hx⟩ : ∃ x, xs.getD k 0 = x := ⟨_, rfl⟩
      have hs := rngE_step lo hi xs k (by have := HR.out.1; omega)
      rw [hx] at hck hs
      have CX := Lib.hid (C.out x)
      obtain ⟨E, hE⟩ : ∃ E, rngE lo hi [x] = E := ⟨_, rfl⟩
      rw [hE] at hs CX
      have HS := Lib.hid hs; clear hs hx hE
      have hkI : (k : Int) < (n : Int) := by omega
      by_cases h0 : E = 0
      · subst h0
        go_wp2_with (go_at_call 117; refine CX.out.mono ?_; rintro e w' ⟨rfl, rfl⟩)
        go_round
        case rel => exact ⟨k + 1, by omega, by go_num, by show _ = _; rw [HF.out, HS.out]; rfl⟩
        case measure => simp [intOf]; omega
      · have h1 : (E == 0) = false := by rw [beq_eq_false_iff_ne]; exact h0
        have h2 : (E != 0) = true := by rw [bne_iff_ne]; exact h0
        go_wp2_with (go_at_call 117; refine CX.out.mono ?_; rintro e w' ⟨rfl, rfl⟩)
        go_ret
        exact ⟨by rw [HF.out, HS.out, if_neg h0]; rfl, rfl⟩
    · obtain rfl : n = k := by omega
      go_wp2
      go_ret
      exact ⟨by rw [HF.out, List.drop_eq_nil_of_le (by have := HR.out.1; omega)]; rfl, rfl⟩

end Go.Proofs.Ytepcciodhppbnaa
