import Derived.Test.YtccoflhoggpgoaaSA2
import Derived.Test.YtccoflhoggpgoaaSxaa
import Derived.Test.YtccoflhoggpgoaaRows
import Derived.ProofKit
import Derived.OpenShut
import Derived.Deep.Slices
import Derived.Test.YtccoflhoggpgoaaSxae
import Derived.ChangeArms
import Derived.Laws.IdiomArrays
namespace Go.Proofs.Ytccoflhoggpgoaa
open Go.RowKit

open Go.Shelf

theorem fromB_cons01 (x : Int) (l : List Int) : fromB 0 1 (x :: l) = (fromB 0 1 [x] && fromB 0 1 l) := by simp [fromB]
theorem fromB_drop01 (l : List Int) (k : Nat) (hk : k < l.length) : fromB 0 1 (l.drop k) = (fromB 0 1 [l.getD k 0] && fromB 0 1 (l.drop (k + 1))) := by
  rw [List.drop_eq_getElem_cons hk, fromB_cons01, List.getD_eq_getElem?_getD, List.getElem?_eq_getElem hk, Option.getD_some]
set_option maxRecDepth 100000 in
set_option maxHeartbeats 2000000 in
theorem areAlternatives_any (A : Option Addr) (n c : Nat) (xs : List Int) (w : World) (hr : RdI w A n xs) (hn : n ≤ 1000000) :
    Calls Try.prog 106 #[.slice A n c] w fun e w' => e = .returned (.bool (fromB 0 1 xs)) ∧ w = w' := by
  have HR := Lib.hid hr
  have HST : Hid (∀ k, k < n → fromB 0 1 (xs.drop k) = (fromB 0 1 [xs.getD k 0] && fromB 0 1 (xs.drop (k + 1)))) := fun k hk => fromB_drop01 xs k (by rw [hr.1]; exact hk)
  have HEND : Hid (fromB 0 1 (xs.drop n) = true) := by show _ = _; rw [List.drop_eq_nil_of_le (by rw [hr.1]; exact Nat.le_refl _)]; rfl
  have H0 : Hid (fromB 0 1 xs = fromB 0 1 (xs.drop 0)) := by show _ = _; rw [List.drop_zero]
  have CW := Lib.hid (fun x w => within_any x 0 1 w)
  obtain ⟨V, hV⟩ : ∃ V, fromB 0 1 xs = V := ⟨_, rfl⟩
  rw [hV] at H0 ⊢
  clear hr hV
  go_enter Try.func106, Try.ntmps106
  go_wp2
  go_loop [3] (fun i => ∃ k : Nat, k ≤ n ∧ i = .int .i64 k ∧ Hid (V = fromB 0 1 (xs.drop k))) (fun i => n - (intOf i).toNat)
  case atStart => exact ⟨0, Nat.zero_le _, rfl, H0⟩
  case round =>
    obtain ⟨k, hk, rfl, HV⟩ := hrel
    by_cases hlt : k < n
    · have hkI : (k : Int) < (n : Int) := by omega
      have hk0 : (0 : Int) ≤ (k : Int) := by omega
      obtain ⟨ad, ha, _, hc⟩ := HR.out.2 (by omega)
      subst ha
      have hck := hc k hlt
      have HS := Lib.hid (HST.out k hlt)
      have CX := Lib.hid (CW.out (xs.getD k 0) w)
      obtain ⟨x, hx⟩ : ∃ x, xs.getD k 0 = x := ⟨_, rfl⟩
      rw [hx] at hck HS CX
      obtain ⟨b, hb⟩ : ∃ b, fromB 0 1 [x] = b := ⟨_, rfl⟩
      rw [hb] at HS CX
      clear hc hx hb
      cases b with
      | false =>
        obtain rfl : V = false := by rw [HV.out, HS.out, Bool.false_and]
        go_wp2_with fail
        refine CX.out.mono ?_
        rintro e w' ⟨rfl, rfl⟩
        go_wp2
        go_ret
        exact ⟨rfl, rfl⟩
      | true =>
        have HV2 : Hid (V = fromB 0 1 (xs.drop (k + 1))) := by show _ = _; rw [HV.out, HS.out, Bool.true_and]
        go_wp2_with fail
        refine CX.out.mono ?_
        rintro e w' ⟨rfl, rfl⟩
        go_wp2
        go_round
        case rel => exact ⟨k + 1, by omega, by go_num, HV2⟩
        case measure => simp [intOf]; omega
    · obtain rfl : n = k := by omega
      have hkI : ¬ (n : Int) < (n : Int) := by omega
      obtain rfl : V = true := by rw [HV.out, HEND.out]
      go_wp2
      go_ret
      exact ⟨rfl, rfl⟩
set_option maxRecDepth 100000 in
set_option maxHeartbeats 2000000 in
theorem refRulesErr_any (A : Option Addr) (n c : Nat) (hs : List Int) (w : World) (hr : RdI w A n hs) (hn : n ≤ 1000000) :
    Calls Try.prog 52 #[.agg #[.slice A n c]] w fun e w' => e = .returned (.int .i64 (rlE hs)) ∧ Below w.heap.size w w' := by
  have hln := hr.1
  have R0 := Lib.hid (OneB.start w 76 #[.slice A n c])
  have CA : Hid (∀ W, Below w.heap.size w W → Calls Try.prog 106 #[.slice A n c] W fun e w' => e = .returned (.bool (fromB 0 1 hs)) ∧ W = w') := fun W hb => areAlternatives_any A n c hs W (hr.below hb) hn
  have HV : Hid (rlE hs = if n = 0 then 10 else if 10 < n then 8 else if fromB 0 1 hs = true then 0 else 2) := by
    show _ = _
    unfold rlE rngE
    rw [hln]
    by_cases a : n = 0
    · simp [a, firstNZ]
    · by_cases b : 10 < n
      · simp [a, b, firstNZ]
      · cases fromB 0 1 hs <;> simp [a, b, firstNZ]
  obtain ⟨V, hV⟩ : ∃ V, rlE hs = V := ⟨_, rfl⟩
  rw [hV] at HV ⊢
  obtain ⟨bb, hbb⟩ : ∃ b, fromB 0 1 hs = b := ⟨_, rfl⟩
  rw [hbb] at HV CA
  clear hln hr hV hbb
  have c0 := (bk1 R0.out.k).1
  by_cases a : n = 0
  · obtain rfl : V = 10 := by rw [HV.out, if_pos a]
    have e1 : ((n : Int) == 0) = true := by rw [beq_iff_eq]; omega
    have e2 : decide ((n : Int) = 0) = true := decide_eq_true (by omega)
    have e3 : decide (n = 0) = true := decide_eq_true a
    clear a HV
    go_enter Try.func52, Try.ntmps52
    go_wp2
    go_ret
    exact ⟨rfl, R0.out.b⟩
  have e1 : ((n : Int) == 0) = false := by rw [beq_eq_false_iff_ne]; omega
  have e2 : decide ((n : Int) = 0) = false := decide_eq_false (by omega)
  have e3 : decide (n = 0) = false := decide_eq_false a
  have hv := HV.out
  rw [if_neg a] at hv
  clear a HV
  by_cases b : 10 < n
  · obtain rfl : V = 8 := by rw [hv, if_pos b]
    have bI : (10 : Int) < (n : Int) := by omega
    clear hv
    go_enter Try.func52, Try.ntmps52
    go_wp2
    go_ret
    exact ⟨rfl, R0.out.b⟩
  have bI : ¬ (10 : Int) < (n : Int) := by omega
  rw [if_neg b] at hv
  cases bb with
  | true =>
    obtain rfl : V = 0 := by rw [hv, if_pos rfl]
    clear hv
    go_enter Try.func52, Try.ntmps52
    go_wp2_with fail
    refine (CA.out _ R0.out.b).mono ?_
    rintro e w' ⟨rfl, rfl⟩
    go_wp2
    go_ret
    exact ⟨rfl, R0.out.b⟩
  | false =>
    obtain rfl : V = 2 := by rw [hv, if_neg (by simp)]
    clear hv
    go_enter Try.func52, Try.ntmps52
    go_wp2_with fail
    refine (CA.out _ R0.out.b).mono ?_
    rintro e w' ⟨rfl, rfl⟩
    go_wp2
    go_ret
    exact ⟨rfl, R0.out.b⟩

end Go.Proofs.Ytccoflhoggpgoaa

namespace Go.Proofs.Ytccoflhoggpgoaa
open Go.RowKit

open Go.Shelf

set_option maxRecDepth 100000 in
set_option maxHeartbeats 4000000 in
theorem refStateErr_any (A : Option Addr) (n c : Nat) (p : Int) (h0 h1 h2 : Bool) (B : Option Addr) (m d : Nat) (xs : List Int) (w : World) (ha : RdI w B m xs) (hm : m ≤ 1000000) :
    Calls Try.prog 109 #[.agg #[.slice A n c], .agg #[.int .i64 p, .bool h0, .bool h1, .bool h2, .slice B m d]] w fun e w' => e = .returned (.int .i64 (firstNZ [s1E n p xs, s2E n p h0 h1 h2 m])) ∧ Below w.heap.size w w' := by
  have hla := ha.1
  have T0 := Lib.hid (StB.start w A n c p h0 h1 h2 B m d)
  have CW := Lib.hid (fun w => within_any p (-1) 2 w)
  have CA : Hid (∀ W, Below w.heap.size w W → Calls Try.prog 106 #[.slice B m d] W fun e w' => e = .returned (.bool (fromB 0 1 xs)) ∧ W = w') := fun W hb => areAlternatives_any B m d xs W (ha.below hb) hm
  have HB : Hid (fromB (-1) 2 [p] = true → -1 ≤ p ∧ p ≤ 2) := by intro h; simpa [fromB] using h
  have HV : Hid (firstNZ [s1E n p xs, s2E n p h0 h1 h2 m] = if fromB (-1) 2 [p] = true then (if n < m then 8 else if fromB 0 1 xs = true then s2E n p h0 h1 h2 m else 2) else 2) := by
    show _ = _
    unfold s1E rngE
    rw [hla]
    cases fromB (-1) 2 [p]
    · simp [firstNZ]
    · by_cases b : n < m
      · simp [b, firstNZ]
      · cases fromB 0 1 xs
        · simp [b, firstNZ]
        · by_cases z : s2E n p h0 h1 h2 m = 0 <;> simp [b, z, firstNZ]
  obtain ⟨V, hV⟩ : ∃ V, firstNZ [s1E n p xs, s2E n p h0 h1 h2 m] = V := ⟨_, rfl⟩
  rw [hV] at HV ⊢
  obtain ⟨b1, hb1⟩ : ∃ b, fromB (-1) 2 [p] = b := ⟨_, rfl⟩
  rw [hb1] at HV CW HB
  obtain ⟨b2, hb2⟩ : ∃ b, fromB 0 1 xs = b := ⟨_, rfl⟩
  rw [hb2] at HV CA
  clear hla ha hV hb1 hb2
  go_enter Try.func109, Try.ntmps109
  obtain ⟨r0, s0, s1, s2, s3, s4⟩ := T0.out.cells
  go_wp2_with fail
  refine (CW.out _).mono ?_
  rintro e w' ⟨rfl, rfl⟩
  cases b1 with
  | false =>
    obtain rfl : V = 2 := by rw [HV.out, if_neg (by simp)]
    go_wp2
    go_ret
    exact ⟨rfl, T0.out.b⟩
  | true =>
    have hv := HV.out
    rw [if_pos rfl] at hv
    obtain ⟨hp1, hp2⟩ := HB.out rfl
    by_cases b : n < m
    · obtain rfl : V = 8 := by rw [hv, if_pos b]
      have bI : (n : Int) < (m : Int) := by omega
      clear hv
      go_wp2
      go_ret
      exact ⟨rfl, T0.out.b⟩
    rw [if_neg b] at hv
    have bI : ¬ (n : Int) < (m : Int) := by omega
    have hv' := Lib.hid hv
    clear hv HV
    go_wp2_with fail
    refine (CA.out _ T0.out.b).mono ?_
    rintro e w' ⟨rfl, rfl⟩
    cases b2 with
    | false =>
      obtain rfl : V = 2 := by rw [hv'.out, if_neg (by simp)]
      go_wp2
      go_ret
      exact ⟨rfl, T0.out.b⟩
    | true =>
      have hs : V = s2E n p h0 h1 h2 m := by rw [hv'.out, if_pos rfl]
      have HS := Lib.hid hs
      clear hs hv'
      by_cases hmn : m = n
      · have e1 : ((m : Int) == (n : Int)) = true := by rw [beq_iff_eq]; omega
        have e2 : decide (m = n) = true := decide_eq_true hmn
        have e3 : decide ((m : Int) = (n : Int)) = true := decide_eq_true (by omega)
        rcases (by omega : p = -1 ∨ p = 0 ∨ p = 1 ∨ p = 2) with rfl | rfl | rfl | rfl
        · have heq := fun W => eqZ h0 h1 h2 W
          cases hzz : (h0 || h1 || h2) with
          | true =>
            rw [hzz] at heq
            obtain rfl : V = 21 := by rw [HS.out]; unfold s2E; simp [hmn, hzz, firstNZ]
            clear hmn HS hzz
            go_wp2
            go_ret
            exact ⟨rfl, T0.out.b⟩
          | false =>
            rw [hzz] at heq
            obtain rfl : V = 0 := by rw [HS.out]; unfold s2E; simp [hmn, hzz, firstNZ]
            clear hmn HS hzz
            go_wp2
            go_ret
            exact ⟨rfl, T0.out.b⟩
        all_goals
          obtain rfl : V = 21 := by rw [HS.out]; unfold s2E; simp [hmn, firstNZ]
          clear hmn HS
          go_wp2
          go_ret
          exact ⟨rfl, T0.out.b⟩
      · have e1 : ((m : Int) == (n : Int)) = false := by rw [beq_eq_false_iff_ne]; omega
        have e2 : decide (m = n) = false := decide_eq_false hmn
        have e3 : decide ((m : Int) = (n : Int)) = false := decide_eq_false (by omega)
        rcases (by omega : p = -1 ∨ p = 0 ∨ p = 1 ∨ p = 2) with rfl | rfl | rfl | rfl
        · obtain rfl : V = 0 := by rw [HS.out]; unfold s2E; simp [hmn, firstNZ]
          clear hmn HS
          go_wp2
          go_ret
          exact ⟨rfl, T0.out.b⟩
        · cases h0 with
          | true =>
            obtain rfl : V = 0 := by rw [HS.out]; unfold s2E hrB; simp [hmn, firstNZ]
            clear hmn HS
            go_wp2
            go_ret
            exact ⟨rfl, T0.out.b⟩
          | false =>
            obtain rfl : V = 3 := by rw [HS.out]; unfold s2E hrB; simp [hmn, firstNZ]
            clear hmn HS
            go_wp2
            go_ret
            exact ⟨rfl, T0.out.b⟩
        · cases h1 with
          | true =>
            obtain rfl : V = 0 := by rw [HS.out]; unfold s2E hrB; simp [hmn, firstNZ]
            clear hmn HS
            go_wp2
            go_ret
            exact ⟨rfl, T0.out.b⟩
          | false =>
            obtain rfl : V = 3 := by rw [HS.out]; unfold s2E hrB; simp [hmn, firstNZ]
            clear hmn HS
            go_wp2
            go_ret
            exact ⟨rfl, T0.out.b⟩
        · cases h2 with
          | true =>
            obtain rfl : V = 0 := by rw [HS.out]; unfold s2E hrB; simp [hmn, firstNZ]
            clear hmn HS
            go_wp2
            go_ret
            exact ⟨rfl, T0.out.b⟩
          | false =>
            obtain rfl : V = 3 := by rw [HS.out]; unfold s2E hrB; simp [hmn, firstNZ]
            clear hmn HS
            go_wp2
            go_ret
            exact ⟨rfl, T0.out.b⟩

end Go.Proofs.Ytccoflhoggpgoaa

namespace Go.Proofs.Ytccoflhoggpgoaa
open Go.RowKit

open Go.Shelf

theorem few_any (A : Option Addr) (n c : Nat) (p : Int) (h0 h1 h2 : Bool) (B : Option Addr) (m d : Nat) (w : World) (fb : Bool) (hf : fb = (decide (n ≤ 12) && decide (m ≤ 12))) :
    Calls Try.prog 47 #[.agg #[.slice A n c], .agg #[.int .i64 p, .bool h0, .bool h1, .bool h2, .slice B m d]] w fun e w' => e = .returned (.bool fb) ∧ Below w.heap.size w w' := by
  have T0 := Lib.hid (StB.start w A n c p h0 h1 h2 B m d)
  obtain ⟨r0, s0, s1, s2, s3, s4⟩ := T0.out.cells
  by_cases h : n ≤ 12
  · have hI : (n : Int) ≤ 12 := by omega
    by_cases h' : m ≤ 12
    · have hI' : (m : Int) ≤ 12 := by omega
      obtain rfl : fb = true := by rw [hf]; simp [h, h']
      clear hf h h'
      go_enter Try.func47, Try.ntmps47
      go_wp2
      go_ret
      exact ⟨rfl, T0.out.b⟩
    · have hI' : ¬ (m : Int) ≤ 12 := by omega
      obtain rfl : fb = false := by rw [hf]; simp [h']
      clear hf h h'
      go_enter Try.func47, Try.ntmps47
      go_wp2
      go_ret
      exact ⟨rfl, T0.out.b⟩
  · have hI : ¬ (n : Int) ≤ 12 := by omega
    obtain rfl : fb = false := by rw [hf]; simp [h]
    clear hf h
    go_enter Try.func47, Try.ntmps47
    go_wp2
    go_ret
    exact ⟨rfl, T0.out.b⟩
theorem bothErr_any (A : Option Addr) (n c : Nat) (p : Int) (h0 h1 h2 : Bool) (B : Option Addr) (m d : Nat) (hs xs : List Int) (w : World) (hr : RdI w A n hs) (ha : RdI w B m xs) (hn : n ≤ 1000000) (hm : m ≤ 1000000) :
    Calls Try.prog 56 #[.agg #[.slice A n c], .agg #[.int .i64 p, .bool h0, .bool h1, .bool h2, .slice B m d]] w fun e w' => e = .returned (.int .i64 (firstNZ [rlE hs, s1E n p xs, s2E n p h0 h1 h2 m])) ∧ Below w.heap.size w w' := by
  have T0 := Lib.hid (StB.start w A n c p h0 h1 h2 B m d)
  have CR : Hid (∀ W, Below w.heap.size w W → Calls Try.prog 52 #[.agg #[.slice A n c]] W fun e w' => e = .returned (.int .i64 (rlE hs)) ∧ Below W.heap.size W w') := fun W hb => refRulesErr_any A n c hs W (hr.below hb) hn
  have CS : Hid (∀ W, Below w.heap.size w W → Calls Try.prog 109 #[.agg #[.slice A n c], .agg #[.int .i64 p, .bool h0, .bool h1, .bool h2, .slice B m d]] W fun e w' => e = .returned (.int .i64 (firstNZ [s1E n p xs, s2E n p h0 h1 h2 m])) ∧ Below W.heap.size W w') := fun W hb => refStateErr_any A n c p h0 h1 h2 B m d xs W (ha.below hb) hm
  have HV : Hid (firstNZ [rlE hs, s1E n p xs, s2E n p h0 h1 h2 m] = if rlE hs = 0 then firstNZ [s1E n p xs, s2E n p h0 h1 h2 m] else rlE hs) := rfl
  obtain ⟨V, hV⟩ : ∃ V, firstNZ [rlE hs, s1E n p xs, s2E n p h0 h1 h2 m] = V := ⟨_, rfl⟩
  rw [hV] at HV ⊢
  obtain ⟨R, hR⟩ : ∃ V, rlE hs = V := ⟨_, rfl⟩
  obtain ⟨S, hS⟩ : ∃ V, firstNZ [s1E n p xs, s2E n p h0 h1 h2 m] = V := ⟨_, rfl⟩
  rw [hR] at HV CR
  rw [hS] at HV CS
  clear hV hR hS hr ha
  obtain ⟨r0, s0, s1, s2, s3, s4⟩ := T0.out.cells
  by_cases h : R = 0
  · subst h
    obtain rfl : V = S := HV.out
    go_enter Try.func56, Try.ntmps56
    go_wp2_with fail
    clear r0 s0 s1 s2 s3 s4
    refine (CR.out _ T0.out.b).mono ?_
    rintro e w1 ⟨rfl, hb⟩
    have T1 := Lib.hid (T0.out.later hb)
    clear hb T0
    obtain ⟨r0, s0, s1, s2, s3, s4⟩ := T1.out.cells
    go_wp2_with fail
    clear r0 s0 s1 s2 s3 s4
    refine (CS.out _ T1.out.b).mono ?_
    rintro e w2 ⟨rfl, hb⟩
    have T2 := Lib.hid (T1.out.later hb)
    clear hb T1
    go_wp2
    go_ret
    exact ⟨rfl, T2.out.b⟩
  · obtain rfl : V = R := by rw [HV.out, if_neg h]
    have e1 : (V == 0) = false := by rw [beq_eq_false_iff_ne]; exact h
    have e2 : (V != 0) = true := by rw [bne_iff_ne]; exact h
    clear h
    go_enter Try.func56, Try.ntmps56
    go_wp2_with fail
    clear r0 s0 s1 s2 s3 s4
    refine (CR.out _ T0.out.b).mono ?_
    rintro e w1 ⟨rfl, hb⟩
    have T1 := Lib.hid (T0.out.later hb)
    clear hb T0
    go_wp2
    go_ret
    exact ⟨rfl, T1.out.b⟩
/-- How many answers are right. -/
def scF (hs xs : List Int) : Nat → Int
  | 0 => 0
  | k + 1 => if xs.getD k 0 = hs.getD k 0 then scF hs xs k + 1 else scF hs xs k
theorem scF_bd (hs xs : List Int) : ∀ k, 0 ≤ scF hs xs k ∧ scF hs xs k ≤ k
  | 0 => by simp [scF]
  | k + 1 => by
    have := scF_bd hs xs k
    unfold scF
    split <;> omega
set_option maxRecDepth 100000 in
set_option maxHeartbeats 4000000 in
theorem refScoreOf_any (A : Option Addr) (n c : Nat) (p : Int) (h0 h1 h2 : Bool) (B : Option Addr) (m d : Nat) (hs xs : List Int) (w : World) (hr : RdI w A n hs) (ha : RdI w B m xs) (hmn : m ≤ n) (hn : n ≤ 1000000) :
    Calls Try.prog 58 #[.agg #[.slice A n c], .agg #[.int .i64 p, .bool h0, .bool h1, .bool h2, .slice B m d]] w fun e w' => e = .returned (.int .i64 (scF hs xs m)) ∧ Below w.heap.size w w' := by
  have T0 := Lib.hid (StB.start w A n c p h0 h1 h2 B m d)
  have HR := Lib.hid (hr.below T0.out.b)
  have HA := Lib.hid (ha.below T0.out.b)
  have HST : Hid (∀ k, scF hs xs (k + 1) = if xs.getD k 0 = hs.getD k 0 then scF hs xs k + 1 else scF hs xs k) := fun _ => rfl
  have HBD := Lib.hid (scF_bd hs xs)
  clear hr ha
  go_enter Try.func58, Try.ntmps58
  go_wp2
  obtain ⟨W0, hW0⟩ : ∃ W, (w.alloc (.cells #[.slice A n c] 76)).alloc (.cells #[.int .i64 p, .bool h0, .bool h1, .bool h2, .slice B m d] 79) = W := ⟨_, rfl⟩
  rw [hW0] at T0 HR HA ⊢
  clear hW0
  obtain ⟨r0, s0, s1, s2, s3, s4⟩ := T0.out.cells
  go_loopw [5, 6] (fun s i wr => ∃ k : Nat, k ≤ m ∧ i = .int .i64 k ∧ s = .int .i64 (scF hs xs k) ∧ Hid (∃ q, wr = W0.drewN q)) (fun _ i _ => m - (intOf i).toNat)
  case atStart => exact ⟨0, Nat.zero_le _, rfl, rfl, ⟨0, rfl⟩⟩
  case round =>
    obtain ⟨k, hk, rfl, rfl, HD⟩ := hrel
    obtain ⟨q, rfl⟩ := HD.out
    by_cases hlt : k < m
    · have hkI : (k : Int) < (m : Int) := by omega
      have hkn : (k : Int) < (n : Int) := by omega
      have hk0 : (0 : Int) ≤ (k : Int) := by omega
      obtain ⟨ad, e1, _, hc1⟩ := HR.out.2 (by omega)
      obtain ⟨bd, e2, _, hc2⟩ := HA.out.2 (by omega)
      subst e1 e2
      have hx := hc1 k (by omega)
      have hy := hc2 k hlt
      have HS := Lib.hid (HST.out k)
      have hbd := HBD.out k
      obtain ⟨x, hxx⟩ : ∃ x, hs.getD k 0 = x := ⟨_, rfl⟩
      obtain ⟨y, hyy⟩ : ∃ x, xs.getD k 0 = x := ⟨_, rfl⟩
      obtain ⟨s, hss⟩ : ∃ x, scF hs xs k = x := ⟨_, rfl⟩
      rw [hxx] at hx HS
      rw [hyy] at hy HS
      rw [hss] at HS hbd ⊢
      clear hc1 hc2 hxx hyy hss
      by_cases hxy : y = x
      · subst hxy
        have HS2 := Lib.hid (HS.out.trans (if_pos rfl))
        go_wp2
        go_quiet (fail)
        go_wp2
        go_roundw
        case rel => exact ⟨k + 1, by omega, by go_num, by first | (rw [HS2.out]; done) | (rw [HS2.out]; go_num), ⟨_, by first | rfl | exact World.drewN_drewN _ _ _⟩⟩
        case measure => simp only [intOf]; omega
      · have b1 : (y == x) = false := by rw [beq_eq_false_iff_ne]; exact hxy
        have b2 : decide (y = x) = false := decide_eq_false hxy
        have HS2 := Lib.hid (HS.out.trans (if_neg hxy))
        clear hxy
        go_wp2
        go_quiet (fail)
        go_wp2
        go_roundw
        case rel => exact ⟨k + 1, by omega, by go_num, by rw [HS2.out], ⟨_, by first | rfl | exact World.drewN_drewN _ _ _⟩⟩
        case measure => simp only [intOf]; omega
    · obtain rfl : m = k := by omega
      have hkI : ¬ (m : Int) < (m : Int) := by omega
      go_wp2
      go_ret
      exact ⟨rfl, blw_drewN T0.out.b q⟩

end Go.Proofs.Ytccoflhoggpgoaa

namespace Go.Proofs.Ytccoflhoggpgoaa
open Go.RowKit

open Go.Shelf

theorem own_rdS {w : World} {base : Nat} {A : Option Addr} {n c : Nat} {xs : List Int} (h : w.ownsRow base 3 1 (.slice A n c) n (xs.map (Value.int .i64))) : RdI w A n xs := by
  obtain ⟨A', c', e, _, hr⟩ := rd_of_own h
  injection e with e1 e2 e3
  rw [e1]; exact hr
theorem own_setS {w : World} {base : Nat} {e : TypeId} {size : Nat} {v : Value} {n : Nat} {xs : List Value} (h : w.ownsRow base e size v n xs) {p : Addr} (hp : p.block < base) (x : Value) : (w.setCell p x).ownsRow base e size v n xs :=
  own_same h (fun g hg => heap_setCell_other w p g x (by have := (h.lt g hg).1; omega))
set_option maxRecDepth 100000 in
set_option maxHeartbeats 4000000 in
theorem copyRules_any (A : Option Addr) (n c : Nat) (hs : List Int) (w : World) (hA : A = none → n = 0 ∧ c = 0) (hr : RdI w A n hs) (hn : n ≤ 1000000) :
    Calls Try.prog 49 #[.agg #[.slice A n c]] w fun e w' => (∃ A' c', e = .returned (.agg #[.slice A' n c']) ∧ n ≤ c' ∧ RdI w' A' n hs) ∧ Below w.heap.size w w' := by
  have hln := hr.1
  have R0 := Lib.hid (OneB.start w 76 #[.slice A n c])
  have R1 := Lib.hid (OneB.alloc R0.out (.cells #[.slice none 0 0] 76))
  have hsz : (w.alloc (.cells #[.slice A n c] 76)).heap.size = w.heap.size + 1 := by simp
  have K1 := Lib.hid (Bk.new (w.alloc (.cells #[.slice A n c] 76)) 76 #[.slice none 0 0])
  rw [hsz] at K1
  have CC : Hid (∀ W, Below w.heap.size w W → Calls Try.prog 31 #[.slice A n c] W (OwnS W hs)) := fun W hb => copyInts_any A n c hs W hA (hr.below hb) hn
  clear hr hA R0 hsz
  go_enter Try.func49, Try.ntmps49
  have c0 := (bk1 R1.out.k).1
  go_wp2_with fail
  have hg1 := K1.out.lt
  refine (CC.out _ R1.out.b).mono ?_
  rintro e w1 ⟨⟨v, rfl, ho⟩, hb⟩
  obtain ⟨A', c', hv, hc', _⟩ := rd_of_own ho
  subst hv
  rw [hln] at ho hc' ⊢
  have R2 := Lib.hid (OneB.later hb R1.out)
  have K2 := Lib.hid (K1.out.later hb)
  have HO := Lib.hid (own_rdS (own_setS ho (p := ⟨w.heap.size + 1, 0, none⟩) hg1 (.slice A' n c')))
  clear hb R1 K1 CC c0 ho hg1
  have k0 : w1.cell? ⟨w.heap.size + 1, 0, none⟩ = some (.slice none 0 0) := by rw [K2.out.cell]; rfl
  have kf : w1.frozen? ⟨w.heap.size + 1, 0, none⟩ = false := K2.out.frozen 0
  have KF := Lib.hid (K2.out.set_ 0 (.slice A' n c'))
  have e0 : (w1.setCell ⟨w.heap.size + 1, 0, none⟩ (.slice A' n c')).cell? ⟨w.heap.size + 1, 0, none⟩ = some (.slice A' n c') := by rw [KF.out.cell]; rfl
  have HB := Lib.hid (Below.setCell (p := ⟨w.heap.size + 1, 0, none⟩) R2.out.b (Nat.le_succ _) (.slice A' n c'))
  go_wp2
  refine bodyPost_ret (v := .agg #[.slice A' n c']) (by simp [results, Try.results49, go_sem, e0]) rfl ⟨⟨A', c', rfl, hc', HO.out⟩, HB.out⟩
set_option maxRecDepth 100000 in
set_option maxHeartbeats 4000000 in
theorem copyState_any (p : Int) (h0 h1 h2 : Bool) (A : Option Addr) (n c : Nat) (hs : List Int) (w : World) (hA : A = none → n = 0 ∧ c = 0) (hr : RdI w A n hs) (hn : n ≤ 1000000) :
    Calls Try.prog 51 #[.agg #[.int .i64 p, .bool h0, .bool h1, .bool h2, .slice A n c]] w fun e w' => (∃ A' c', e = .returned (.agg #[.int .i64 p, .bool h0, .bool h1, .bool h2, .slice A' n c']) ∧ n ≤ c' ∧ RdI w' A' n hs) ∧ Below w.heap.size w w' := by
  have hln := hr.1
  have R0 := Lib.hid (OneB.start w 79 #[.int .i64 p, .bool h0, .bool h1, .bool h2, .slice A n c])
  have R1 := Lib.hid (OneB.alloc R0.out (.cells #[.int .i64 0, .bool false, .bool false, .bool false, .slice none 0 0] 79))
  have hsz : (w.alloc (.cells #[.int .i64 p, .bool h0, .bool h1, .bool h2, .slice A n c] 79)).heap.size = w.heap.size + 1 := by simp
  have K1 := Lib.hid (Bk.new (w.alloc (.cells #[.int .i64 p, .bool h0, .bool h1, .bool h2, .slice A n c] 79)) 79 #[.int .i64 0, .bool false, .bool false, .bool false, .slice none 0 0])
  rw [hsz] at K1
  have CC : Hid (∀ W, Below w.heap.size w W → Calls Try.prog 31 #[.slice A n c] W (OwnS W hs)) := fun W hb => copyInts_any A n c hs W hA (hr.below hb) hn
  clear hr hA R0 hsz
  go_enter Try.func51, Try.ntmps51
  obtain ⟨c0, c1, c2, c3, c4⟩ := bk5 R1.out.k
  go_wp2_with fail
  have hg1 := K1.out.lt
  refine (CC.out _ R1.out.b).mono ?_
  rintro e w1 ⟨⟨v, rfl, ho⟩, hb⟩
  obtain ⟨A', c', hv, hc', _⟩ := rd_of_own ho
  subst hv
  rw [hln] at ho hc' ⊢
  have R2 := Lib.hid (OneB.later hb R1.out)
  have K2 := Lib.hid (K1.out.later hb)
  clear hb R1 K1 CC c0 c1 c2 c3 c4
  obtain ⟨c0, c1, c2, c3, c4⟩ := bk5 R2.out.k
  have f4 := R2.out.k.frozen 4
  obtain ⟨z0, z1, z2, z3, z4⟩ := bk5 K2.out
  have y0 := K2.out.frozen 0
  have y1 := K2.out.frozen 1
  have y2 := K2.out.frozen 2
  have y3 := K2.out.frozen 3
  have y4 := K2.out.frozen 4
  have ho1 := own_setS ho (p := ⟨w.heap.size, 4, none⟩) (by show w.heap.size < _; omega) (.slice A' n c')
  have hb1 := Below.setCell (p := ⟨w.heap.size, 4, none⟩) R2.out.b (Nat.le_refl _) (.slice A' n c')
  have kb1 := R2.out.k.set_ 4 (.slice A' n c')
  have kz1 := K2.out.far ⟨w.heap.size, 4, none⟩ (by show w.heap.size + 1 ≠ w.heap.size; omega) (.slice A' n c')
  obtain ⟨W2, hW2⟩ : ∃ W, w1.setCell ⟨w.heap.size, 4, none⟩ (.slice A' n c') = W := ⟨_, rfl⟩
  rw [hW2] at ho1 hb1 kb1 kz1
  have kb2 : Bk W2 w.heap.size 79 #[.int .i64 p, .bool h0, .bool h1, .bool h2, .slice A' n c'] := kb1
  have KB := Lib.hid kb2
  have KZ := Lib.hid kz1
  have HW2 := Lib.hid hW2
  have HO1 := Lib.hid ho1
  have HB1 := Lib.hid hb1
  clear kb1 kb2 kz1 ho1 hb1 ho hW2
  go_wp2
  have KF : Bk (((((W2.setCell ⟨w.heap.size + 1, 0, none⟩ (.int .i64 p)).setCell ⟨w.heap.size + 1, 1, none⟩ (.bool h0)).setCell ⟨w.heap.size + 1, 2, none⟩ (.bool h1)).setCell ⟨w.heap.size + 1, 3, none⟩ (.bool h2)).setCell ⟨w.heap.size + 1, 4, none⟩ (.slice A' n c')) (w.heap.size + 1) 79 #[.int .i64 p, .bool h0, .bool h1, .bool h2, .slice A' n c'] := (((((KZ.out.set_ 0 (.int .i64 p)).set_ 1 (.bool h0)).set_ 2 (.bool h1)).set_ 3 (.bool h2)).set_ 4 (.slice A' n c'))
  have HOF := own_rdS (own_setS (own_setS (own_setS (own_setS (own_setS HO1.out (p := ⟨w.heap.size + 1, 0, none⟩) hg1 (.int .i64 p)) (p := ⟨w.heap.size + 1, 1, none⟩) hg1 (.bool h0)) (p := ⟨w.heap.size + 1, 2, none⟩) hg1 (.bool h1)) (p := ⟨w.heap.size + 1, 3, none⟩) hg1 (.bool h2)) (p := ⟨w.heap.size + 1, 4, none⟩) hg1 (.slice A' n c'))
  have HBF := (Below.setCell (p := ⟨w.heap.size + 1, 4, none⟩) (Below.setCell (p := ⟨w.heap.size + 1, 3, none⟩) (Below.setCell (p := ⟨w.heap.size + 1, 2, none⟩) (Below.setCell (p := ⟨w.heap.size + 1, 1, none⟩) (Below.setCell (p := ⟨w.heap.size + 1, 0, none⟩) HB1.out (Nat.le_succ _) (.int .i64 p)) (Nat.le_succ _) (.bool h0)) (Nat.le_succ _) (.bool h1)) (Nat.le_succ _) (.bool h2)) (Nat.le_succ _) (.slice A' n c'))
  obtain ⟨e0, e1, e2, e3, e4⟩ := bk5 KF
  rw [← HW2.out] at e0 e1 e2 e3 e4 HOF HBF
  refine bodyPost_ret (v := .agg #[.int .i64 p, .bool h0, .bool h1, .bool h2, .slice A' n c']) (by simp [results, Try.results51, go_sem, e0, e1, e2, e3, e4]) rfl ⟨⟨A', c', rfl, hc', HOF⟩, HBF⟩

set_option maxRecDepth 100000 in
theorem refBegin_any (A : Option Addr) (n c : Nat) (w : World) :
    Calls Try.prog 55 #[.agg #[.slice A n c]] w fun e w' => e = .returned (.agg #[.int .i64 (-1), .bool false, .bool false, .bool false, .slice none 0 0]) ∧ Below w.heap.size w w' := by
  go_enter Try.func55, Try.ntmps55
  go_wp2
  refine bodyPost_ret (v := .agg #[.int .i64 (-1), .bool false, .bool false, .bool false, .slice none 0 0]) (by simp [results, Try.results55, go_sem]) rfl ⟨rfl, ?_⟩
  go_grown
/-- The heard bits are compared: equal ones are. -/
theorem eqS (a b c : Bool) (W : World) : (Op.equalIn 10000 77 (.agg #[.bool a, .bool b, .bool c]) (.agg #[.bool a, .bool b, .bool c])).run Try.prog W = .ok true W := by
  cases a <;> cases b <;> cases c <;> kernel_rfl

end Go.Proofs.Ytccoflhoggpgoaa

namespace Go.Proofs.Ytccoflhoggpgoaa
open Go.RowKit

open Go.Shelf

set_option maxRecDepth 100000 in
set_option maxHeartbeats 4000000 in
theorem ScoreOf_any (A : Option Addr) (n c : Nat) (p : Int) (h0 h1 h2 : Bool) (B : Option Addr) (m d : Nat) (hs xs : List Int) (w : World) (hr : RdI w A n hs) (ha : RdI w B m xs) (hmn : firstNZ [rlE hs, s1E n p xs, s2E n p h0 h1 h2 m] = 0 → m ≤ n) (hn : n ≤ 1000000) (hm : m ≤ 1000000) (V : Int) (hV : firstNZ [rlE hs, s1E n p xs, s2E n p h0 h1 h2 m] = V) :
    Calls Try.prog 50 #[.agg #[.slice A n c], .agg #[.int .i64 p, .bool h0, .bool h1, .bool h2, .slice B m d]] w fun e w' => e = .returned (.tuple #[.int .i64 (if V = 0 then scF hs xs m else 0), .int .i64 V]) ∧ Below w.heap.size w w' := by
  have T0 := Lib.hid (StB.start w A n c p h0 h1 h2 B m d)
  have CS := Lib.hid (CheckState_any A n c p h0 h1 h2 B m d hs xs _ (hr.below T0.out.b) (ha.below T0.out.b) hn hm)
  have HR0 := Lib.hid hr
  have HA0 := Lib.hid ha
  rw [hV] at CS hmn
  have HST : Hid (∀ k, scF hs xs (k + 1) = if xs.getD k 0 = hs.getD k 0 then scF hs xs k + 1 else scF hs xs k) := fun _ => rfl
  have HBD := Lib.hid (scF_bd hs xs)
  clear hr ha hV
  obtain ⟨r0, s0, s1, s2, s3, s4⟩ := T0.out.cells
  by_cases h : V = 0
  case neg =>
    rw [if_neg h]
    have e1 : (V == 0) = false := by rw [beq_eq_false_iff_ne]; exact h
    have e2 : (V != 0) = true := by rw [bne_iff_ne]; exact h
    clear h hmn
    go_enter Try.func50, Try.ntmps50
    go_wp2_with fail
    clear r0 s0 s1 s2 s3 s4
    refine CS.out.mono ?_
    rintro e w1 ⟨rfl, hb⟩
    have T1 := Lib.hid (T0.out.later hb)
    clear hb T0 CS
    go_wp2
    go_ret2
    exact ⟨rfl, T1.out.b⟩
  subst h
  have hmn' := hmn rfl
  rw [if_pos rfl]
  clear hmn
  go_enter Try.func50, Try.ntmps50
  go_wp2_with fail
  clear r0 s0 s1 s2 s3 s4
  refine CS.out.mono ?_
  rintro e w1 ⟨rfl, hb⟩
  have T1 := Lib.hid (T0.out.later hb)
  have HR := Lib.hid (HR0.out.below T1.out.b)
  have HA := Lib.hid (HA0.out.below T1.out.b)
  clear hb T0 CS
  obtain ⟨r0, s0, s1, s2, s3, s4⟩ := T1.out.cells
  go_wp2
  go_loop [7, 19] (fun s i => ∃ k : Nat, k ≤ m ∧ i = .int .i64 k ∧ s = .int .i64 (scF hs xs k)) (fun _ i => m - (intOf i).toNat)
  case atStart => exact ⟨0, Nat.zero_le _, rfl, rfl⟩
  case round =>
    obtain ⟨k, hk, rfl, rfl⟩ := hrel
    by_cases hlt : k < m
    · have hkI : (k : Int) < (m : Int) := by omega
      have hkn : (k : Int) < (n : Int) := by omega
      have hk0 : (0 : Int) ≤ (k : Int) := by omega
      obtain ⟨ad, e1, _, hc1⟩ := HR.out.2 (by omega)
      obtain ⟨bd, e2, _, hc2⟩ := HA.out.2 (by omega)
      subst e1 e2
      have hx := hc1 k (by omega)
      have hy := hc2 k hlt
      have HS := Lib.hid (HST.out k)
      have hbd := HBD.out k
      obtain ⟨x, hxx⟩ : ∃ x, hs.getD k 0 = x := ⟨_, rfl⟩
      obtain ⟨y, hyy⟩ : ∃ x, xs.getD k 0 = x := ⟨_, rfl⟩
      obtain ⟨s, hss⟩ : ∃ x, scF hs xs k = x := ⟨_, rfl⟩
      rw [hxx] at hx HS
      rw [hyy] at hy HS
      rw [hss] at HS hbd ⊢
      clear hc1 hc2 hxx hyy hss
      by_cases hxy : y = x
      · subst hxy
        have HS2 := Lib.hid (HS.out.trans (if_pos rfl))
        go_wp2
        go_round
        case rel => exact ⟨k + 1, by omega, by go_num, by first | (rw [HS2.out]; done) | (rw [HS2.out]; go_num)⟩
        case measure => simp [intOf]; omega
      · have b1 : (y == x) = false := by rw [beq_eq_false_iff_ne]; exact hxy
        have b2 : decide (y = x) = false := decide_eq_false hxy
        have HS2 := Lib.hid (HS.out.trans (if_neg hxy))
        clear hxy
        go_wp2
        go_round
        case rel => exact ⟨k + 1, by omega, by go_num, by rw [HS2.out]⟩
        case measure => simp [intOf]; omega
    · obtain rfl : m = k := by omega
      have hkI : ¬ (m : Int) < (m : Int) := by omega
      go_wp2
      go_ret2
      exact ⟨rfl, T1.out.b⟩

end Go.Proofs.Ytccoflhoggpgoaa

namespace Go.Proofs.Ytccoflhoggpgoaa
open Go.RowKit

open Go.Shelf

set_option maxRecDepth 100000 in
set_option maxHeartbeats 4000000 in
theorem Begin_any (A : Option Addr) (n c : Nat) (hs : List Int) (w : World) (hr : RdI w A n hs) (hn : n ≤ 1000000) (V : Int) (hV : rlE hs = V) (PV : Int) (hPV : PV = if V = 0 then -1 else 0) :
    Calls Try.prog 48 #[.agg #[.slice A n c]] w fun e w' => e = .returned (.tuple #[.agg #[.int .i64 PV, .bool false, .bool false, .bool false, .slice none 0 0], .int .i64 V]) ∧ Below w.heap.size w w' := by
  have R0 := Lib.hid (OneB.start w 76 #[.slice A n c])
  have R1 := Lib.hid (OneB.alloc R0.out (.cells #[.int .i64 0, .bool false, .bool false, .bool false, .slice none 0 0] 79))
  have hsz : (w.alloc (.cells #[.slice A n c] 76)).heap.size = w.heap.size + 1 := by simp
  have K1 := Lib.hid (Bk.new (w.alloc (.cells #[.slice A n c] 76)) 79 #[.int .i64 0, .bool false, .bool false, .bool false, .slice none 0 0])
  rw [hsz] at K1
  have CR := Lib.hid (CheckRules_any A n c hs _ (hr.below R1.out.b) hn)
  rw [hV] at CR
  clear hr R0 hsz hV
  go_enter Try.func48, Try.ntmps48
  have c0 := (bk1 R1.out.k).1
  go_wp2_with fail
  refine CR.out.mono ?_
  rintro e w1 ⟨rfl, hb⟩
  have R2 := Lib.hid (OneB.later hb R1.out)
  have K2 := Lib.hid (K1.out.later hb)
  clear hb R1 K1 CR c0
  obtain ⟨z0, z1, z2, z3, z4⟩ := bk5 K2.out
  have y0 := K2.out.frozen 0
  have y1 := K2.out.frozen 1
  have y2 := K2.out.frozen 2
  have y3 := K2.out.frozen 3
  have y4 := K2.out.frozen 4
  by_cases h : V = 0
  · obtain rfl : PV = -1 := by rw [hPV, if_pos h]
    subst h
    clear hPV
    have KF : Bk (((((w1.setCell ⟨w.heap.size + 1, 0, none⟩ (.int .i64 (-1))).setCell ⟨w.heap.size + 1, 1, none⟩ (.bool false)).setCell ⟨w.heap.size + 1, 2, none⟩ (.bool false)).setCell ⟨w.heap.size + 1, 3, none⟩ (.bool false)).setCell ⟨w.heap.size + 1, 4, none⟩ (.slice none 0 0)) (w.heap.size + 1) 79 #[.int .i64 (-1), .bool false, .bool false, .bool false, .slice none 0 0] := ((((K2.out.set_ 0 (.int .i64 (-1))).set_ 1 (.bool false)).set_ 2 (.bool false)).set_ 3 (.bool false)).set_ 4 (.slice none 0 0)
    obtain ⟨e0, e1, e2, e3, e4⟩ := bk5 KF
    go_wp2
    refine bodyPost_ret (v := .tuple #[.agg #[.int .i64 (-1), .bool false, .bool false, .bool false, .slice none 0 0], .int .i64 0]) (by simp [results, Try.results48, go_sem, e0, e1, e2, e3, e4]) rfl ⟨rfl, ?_⟩
    have hbw := R2.out.b
    have hbz := hbw.size
    have hkz := K2.out.lt
    go_grown
  · obtain rfl : PV = 0 := by rw [hPV, if_neg h]
    have d1 : (V == 0) = false := by rw [beq_eq_false_iff_ne]; exact h
    have d2 : (V != 0) = true := by rw [bne_iff_ne]; exact h
    clear h hPV
    have KF : Bk (((((w1.setCell ⟨w.heap.size + 1, 0, none⟩ (.int .i64 0)).setCell ⟨w.heap.size + 1, 1, none⟩ (.bool false)).setCell ⟨w.heap.size + 1, 2, none⟩ (.bool false)).setCell ⟨w.heap.size + 1, 3, none⟩ (.bool false)).setCell ⟨w.heap.size + 1, 4, none⟩ (.slice none 0 0)) (w.heap.size + 1) 79 #[.int .i64 0, .bool false, .bool false, .bool false, .slice none 0 0] := ((((K2.out.set_ 0 (.int .i64 0)).set_ 1 (.bool false)).set_ 2 (.bool false)).set_ 3 (.bool false)).set_ 4 (.slice none 0 0)
    obtain ⟨e0, e1, e2, e3, e4⟩ := bk5 KF
    go_wp2
    refine bodyPost_ret (v := .tuple #[.agg #[.int .i64 0, .bool false, .bool false, .bool false, .slice none 0 0], .int .i64 V]) (by simp [results, Try.results48, go_sem, e0, e1, e2, e3, e4]) rfl ⟨rfl, ?_⟩
    have hbw := R2.out.b
    have hbz := hbw.size
    have hkz := K2.out.lt
    go_grown
set_option maxRecDepth 100000 in
set_option maxHeartbeats 4000000 in
/-- The same state, of no answers. -/
theorem same_any (p : Int) (w : World) :
    Calls Try.prog 54 #[.agg #[.int .i64 p, .bool false, .bool false, .bool false, .slice none 0 0], .agg #[.int .i64 p, .bool false, .bool false, .bool false, .slice none 0 0]] w fun e w' => e = .returned (.bool true) ∧ Below w.heap.size w w' := by
  have T1 := Lib.hid (OneB.alloc (OneB.start w 79 #[.int .i64 p, .bool false, .bool false, .bool false, .slice none 0 0]) (.cells #[.int .i64 p, .bool false, .bool false, .bool false, .slice none 0 0] 79))
  have hsz : (w.alloc (.cells #[.int .i64 p, .bool false, .bool false, .bool false, .slice none 0 0] 79)).heap.size = w.heap.size + 1 := by simp
  have K1 := Lib.hid (Bk.new (w.alloc (.cells #[.int .i64 p, .bool false, .bool false, .bool false, .slice none 0 0] 79)) 79 #[.int .i64 p, .bool false, .bool false, .bool false, .slice none 0 0])
  rw [hsz] at K1
  obtain ⟨c0, c1, c2, c3, c4⟩ := bk5 T1.out.k
  obtain ⟨d0, d1, d2, d3, d4⟩ := bk5 K1.out
  have heq := fun W => eqS false false false W
  have hpp : (p == p) = true := by rw [beq_iff_eq]
  have CI := Lib.hid (fun W => ints_any none none 0 0 0 0 [] [] W ⟨rfl, fun h => absurd h (by omega)⟩ ⟨rfl, fun h => absurd h (by omega)⟩ (by omega) (by omega))
  rw [decide_eq_true (rfl : ([] : List Int) = [])] at CI
  go_enter Try.func54, Try.ntmps54
  go_wp2_with fail
  refine (CI.out _).mono ?_
  rintro e w' ⟨rfl, k, rfl⟩
  go_wp2
  go_ret
  exact ⟨rfl, blw_drewN T1.out.b k⟩

end Go.Proofs.Ytccoflhoggpgoaa

namespace Go.Proofs.Ytccoflhoggpgoaa
open Go.RowKit

open Go.Shelf

set_option maxRecDepth 100000 in
theorem states_x (A : Option Addr) (n c : Nat) (p : Int) (h0 h1 h2 : Bool) (B : Option Addr) (m d : Nat) (w : World) (hf : (decide (n ≤ 12) && decide (m ≤ 12)) = false) :
    Calls Try.prog 9 #[.agg #[.slice A n c], .agg #[.int .i64 p, .bool h0, .bool h1, .bool h2, .slice B m d]] w fun e w' => e = .returned (.bool true) ∧ Below w.heap.size w w' := by
  have T0 := Lib.hid (StB.start w A n c p h0 h1 h2 B m d)
  go_enter Try.func9, Try.ntmps9
  go_wp2_with fail
  refine (awake_any _).mono ?_
  rintro e w1 ⟨rfl, hb⟩
  have T1 := Lib.hid (T0.out.later hb)
  clear hb T0
  obtain ⟨r0, s0, s1, s2, s3, s4⟩ := T1.out.cells
  go_wp2_with fail
  refine (few_any A n c p h0 h1 h2 B m d _ false hf.symm).mono ?_
  rintro e w2 ⟨rfl, hb⟩
  have T2 := Lib.hid (T1.out.later hb)
  clear hb r0 s0 s1 s2 s3 s4
  go_wp2
  go_ret
  exact ⟨rfl, T2.out.b⟩
set_option maxRecDepth 100000 in
set_option maxHeartbeats 8000000 in
theorem states_m (A : Option Addr) (n c : Nat) (p : Int) (h0 h1 h2 : Bool) (B : Option Addr) (m d : Nat) (hs xs : List Int) (w : World) (hr : RdI w A n hs) (ha : RdI w B m xs) (hA : A = none → n = 0 ∧ c = 0) (hB : B = none → m = 0 ∧ d = 0) (hn : n ≤ 12) (hm : m ≤ 12) :
    Calls Try.prog 9 #[.agg #[.slice A n c], .agg #[.int .i64 p, .bool h0, .bool h1, .bool h2, .slice B m d]] w fun e w' => e = .returned (.bool true) ∧ Below w.heap.size w w' := by
  have CFW := Lib.hid (fun W => few_any A n c p h0 h1 h2 B m d W true (by simp [hn, hm]))
  have hla := ha.1
  have hmn : firstNZ [rlE hs, s1E n p xs, s2E n p h0 h1 h2 m] = 0 → m ≤ n := fun h => by
    have h1' := firstNZ_zero h (s1E n p xs) (by simp)
    have h2' := firstNZ_zero h1' (if n < xs.length then 8 else 0) (by simp)
    by_cases hlt : n < xs.length
    · rw [if_pos hlt] at h2'; cases h2'
    · omega
  have T0 := Lib.hid (StB.start w A n c p h0 h1 h2 B m d)
  have CRc : Hid (∀ W, Below w.heap.size w W → Calls Try.prog 49 #[.agg #[.slice A n c]] W fun e w' => (∃ A' c', e = .returned (.agg #[.slice A' n c']) ∧ n ≤ c' ∧ RdI w' A' n hs) ∧ Below W.heap.size W w') := fun W hb => copyRules_any A n c hs W hA (hr.below hb) (by omega)
  have CSc : Hid (∀ W, Below w.heap.size w W → Calls Try.prog 51 #[.agg #[.int .i64 p, .bool h0, .bool h1, .bool h2, .slice B m d]] W fun e w' => (∃ A' c', e = .returned (.agg #[.int .i64 p, .bool h0, .bool h1, .bool h2, .slice A' m c']) ∧ m ≤ c' ∧ RdI w' A' m xs) ∧ Below W.heap.size W w') := fun W hb => copyState_any p h0 h1 h2 B m d xs W hB (ha.below hb) (by omega)
  have CRE : Hid (∀ W, Below w.heap.size w W → Calls Try.prog 52 #[.agg #[.slice A n c]] W fun e w' => e = .returned (.int .i64 (rlE hs)) ∧ Below W.heap.size W w') := fun W hb => refRulesErr_any A n c hs W (hr.below hb) (by omega)
  have CBE : Hid (∀ W, Below w.heap.size w W → Calls Try.prog 56 #[.agg #[.slice A n c], .agg #[.int .i64 p, .bool h0, .bool h1, .bool h2, .slice B m d]] W fun e w' => e = .returned (.int .i64 (firstNZ [rlE hs, s1E n p xs, s2E n p h0 h1 h2 m])) ∧ Below W.heap.size W w') := fun W hb => bothErr_any A n c p h0 h1 h2 B m d hs xs W (hr.below hb) (ha.below hb) (by omega) (by omega)
  have CCS : Hid (∀ A' c' B' d' W, RdI W A' n hs → RdI W B' m xs → Calls Try.prog 57 #[.agg #[.slice A' n c'], .agg #[.int .i64 p, .bool h0, .bool h1, .bool h2, .slice B' m d']] W fun e w' => e = .returned (.int .i64 (firstNZ [rlE hs, s1E n p xs, s2E n p h0 h1 h2 m])) ∧ Below W.heap.size W w') := fun A' c' B' d' W h1' h2' => CheckState_any A' n c' p h0 h1 h2 B' m d' hs xs W h1' h2' (by omega) (by omega)
  have CCR : Hid (∀ A' c' W, RdI W A' n hs → Calls Try.prog 53 #[.agg #[.slice A' n c']] W fun e w' => e = .returned (.int .i64 (rlE hs)) ∧ Below W.heap.size W w') := fun A' c' W h => CheckRules_any A' n c' hs W h (by omega)
  have CSO := Lib.hid (fun A' c' B' d' W (h1' : RdI W A' n hs) (h2' : RdI W B' m xs) => ScoreOf_any A' n c' p h0 h1 h2 B' m d' hs xs W h1' h2' hmn (by omega) (by omega) _ rfl)
  have CQS : Hid (firstNZ [rlE hs, s1E n p xs, s2E n p h0 h1 h2 m] = 0 → ∀ W, Below w.heap.size w W → Calls Try.prog 58 #[.agg #[.slice A n c], .agg #[.int .i64 p, .bool h0, .bool h1, .bool h2, .slice B m d]] W fun e w' => e = .returned (.int .i64 (scF hs xs m)) ∧ Below W.heap.size W w') := fun h W hb => refScoreOf_any A n c p h0 h1 h2 B m d hs xs W (hr.below hb) (ha.below hb) (hmn h) (by omega)
  obtain ⟨PV, hPV⟩ : ∃ v : Int, (if rlE hs = 0 then -1 else 0) = v := ⟨_, rfl⟩
  have CBG := Lib.hid (fun A' c' W (h1' : RdI W A' n hs) => Begin_any A' n c' hs W h1' (by omega) _ rfl PV hPV.symm)
  have HPV := Lib.hid hPV
  obtain ⟨E, hE⟩ : ∃ v, firstNZ [rlE hs, s1E n p xs, s2E n p h0 h1 h2 m] = v := ⟨_, rfl⟩
  rw [hE] at CBE CCS CSO CQS
  obtain ⟨D, hD⟩ : ∃ v, rlE hs = v := ⟨_, rfl⟩
  rw [hD] at CRE CCR CBG HPV
  obtain ⟨SC, hSC⟩ : ∃ v, scF hs xs m = v := ⟨_, rfl⟩
  rw [hSC] at CSO CQS
  obtain ⟨SV, hSV⟩ : ∃ v, (if E = 0 then SC else 0) = v := ⟨_, rfl⟩
  rw [hSV] at CSO
  have HSV := Lib.hid hSV
  have hEE : (E != E) = false := by rw [bne_self_eq_false]
  have hDD : (D != D) = false := by rw [bne_self_eq_false]
  have hEe : (E == E) = true := by rw [beq_iff_eq]
  clear hPV hE hD hSC hSV hmn hla hr ha hA hB hn hm
  go_enter Try.func9, Try.ntmps9
  go_wp2_with fail
  refine (awake_any _).mono ?_
  rintro e w1 ⟨rfl, hb⟩
  have T1 := Lib.hid (T0.out.later hb)
  clear hb T0
  obtain ⟨r0, s0, s1, s2, s3, s4⟩ := T1.out.cells
  go_wp2_with fail
  clear r0 s0 s1 s2 s3 s4
  refine (CFW.out _).mono ?_
  rintro e w2 ⟨rfl, hb⟩
  have T2 := Lib.hid (T1.out.later hb)
  clear hb T1
  obtain ⟨r0, s0, s1, s2, s3, s4⟩ := T2.out.cells
  go_wp2_with fail
  clear r0 s0 s1 s2 s3 s4
  refine (CRc.out _ T2.out.b).mono ?_
  rintro e w3 ⟨⟨A1, c1, rfl, _, hr1⟩, hb⟩
  have T3 := Lib.hid (T2.out.later hb)
  have HR1 := Lib.hid hr1
  clear hb T2 hr1
  go_wp2_with fail
  refine (CBG.out _ _ _ HR1.out).mono ?_
  rintro e w4 ⟨rfl, hb⟩
  have T4 := Lib.hid (T3.out.later hb)
  have T5 := Lib.hid (T4.out.later (below1 w4 (.cells #[.int .i64 PV, .bool false, .bool false, .bool false, .slice none 0 0] 79)))
  have K5 := Lib.hid (Bk.new w4 79 #[.int .i64 PV, .bool false, .bool false, .bool false, .slice none 0 0])
  clear hb T3 HR1
  go_upto_region 6 with fail
  obtain ⟨g5, hg5⟩ : ∃ g, w4.heap.size = g := ⟨_, rfl⟩
  obtain ⟨W5, hW5⟩ : ∃ W, w4.alloc (.cells #[.int .i64 PV, .bool false, .bool false, .bool false, .slice none 0 0] 79) = W := ⟨_, rfl⟩
  rw [hW5] at T5 K5 ⊢
  rw [hg5] at K5 ⊢
  clear hg5 hW5 T4
  have hBB : Below W5.heap.size W5 W5 := Below.refl _ _
  have HC : Hid (∀ V, Below W5.heap.size W5 V → (V.cell? ⟨w.heap.size, 0, none⟩ = some (.slice A n c) ∧ V.cell? ⟨w.heap.size + 1, 0, none⟩ = some (.int .i64 p) ∧ V.cell? ⟨w.heap.size + 1, 1, none⟩ = some (.bool h0) ∧ V.cell? ⟨w.heap.size + 1, 2, none⟩ = some (.bool h1) ∧ V.cell? ⟨w.heap.size + 1, 3, none⟩ = some (.bool h2) ∧ V.cell? ⟨w.heap.size + 1, 4, none⟩ = some (.slice B m d))) := fun V hb => (T5.out.later hb).cells
  first | (go_region_held3 (fun w' : World => (w'.cell? ⟨w.heap.size, 0, none⟩ = some (.slice A n c) ∧ w'.cell? ⟨w.heap.size + 1, 0, none⟩ = some (.int .i64 p) ∧ w'.cell? ⟨w.heap.size + 1, 1, none⟩ = some (.bool h0) ∧ w'.cell? ⟨w.heap.size + 1, 2, none⟩ = some (.bool h1) ∧ w'.cell? ⟨w.heap.size + 1, 3, none⟩ = some (.bool h2) ∧ w'.cell? ⟨w.heap.size + 1, 4, none⟩ = some (.slice B m d)) ∧ Below W5.heap.size W5 w') (((refine (fun hI => ⟨HC.out _ hI, hI⟩) ?_; repeat (first | with_reducible assumption | (go_split_ands; with_reducible assumption) | with_reducible refine belowA ?_ _ | with_reducible refine Below.drew ?_)))) (first
    | (go_at_call 49; ((with_reducible refine (CRc.out _ ?_).mono ?_)); (focus (exact T5.out.b.trans (Below.mono (by first | assumption | (go_split_ands; assumption)) T5.out.b.size))); rintro e wa ⟨⟨Aa, ca, rfl, hca, hra⟩, hba⟩; have hba' : Below W5.heap.size W5 wa := Below.trans (by first | assumption | (go_split_ands; assumption)) (hba.mono (Below.size (by first | assumption | (go_split_ands; assumption)))); clear hba)
    | (go_at_call 51; ((with_reducible refine (CSc.out _ ?_).mono ?_)); (focus (exact T5.out.b.trans (Below.mono (by first | assumption | (go_split_ands; assumption)) T5.out.b.size))); rintro e wb ⟨⟨Ab, cb, rfl, hcb, hrb⟩, hbb⟩; have hra2 := hra.below hbb; have hbb' : Below W5.heap.size W5 wb := Below.trans (by first | assumption | (go_split_ands; assumption)) (hbb.mono (Below.size (by first | assumption | (go_split_ands; assumption)))); clear hbb)
    | (go_at_call 50; ((with_reducible refine (CSO.out _ _ _ _ _ hra2 hrb).mono ?_)); rintro e w6 ⟨rfl, hbc⟩; have hbc' : Below W5.heap.size W5 w6 := Below.trans (by first | assumption | (go_split_ands; assumption)) (hbc.mono (Below.size (by first | assumption | (go_split_ands; assumption)))); clear hbc hca hcb hra hra2 hrb))) | fail
  have hbn := Lib.hid hbc'
  clear hbc' hba' hbb' hBB HC
  have T6 := Lib.hid (T5.out.later hbn.out)
  have K6 := Lib.hid (K5.out.later hbn.out)
  clear hbn T5 K5
  obtain ⟨r0, s0, s1, s2, s3, s4⟩ := T6.out.cells
  go_wp2_with fail
  clear r0 s0 s1 s2 s3 s4
  refine (CRE.out _ T6.out.b).mono ?_
  rintro e w7 ⟨rfl, hb⟩
  have T7 := Lib.hid (T6.out.later hb)
  have K7 := Lib.hid (K6.out.later hb)
  clear hb T6 K6
  obtain ⟨r0, s0, s1, s2, s3, s4⟩ := T7.out.cells
  go_wp2_with fail
  clear r0 s0 s1 s2 s3 s4
  refine (CRc.out _ T7.out.b).mono ?_
  rintro e w8 ⟨⟨A2, c2, rfl, _, hr1⟩, hb⟩
  have T8 := Lib.hid (T7.out.later hb)
  have K8 := Lib.hid (K7.out.later hb)
  have HR1 := Lib.hid hr1
  clear hb T7 K7 hr1
  go_wp2_with fail
  refine (CCR.out _ _ _ HR1.out).mono ?_
  rintro e W9 ⟨rfl, hb⟩
  have T9 := Lib.hid (T8.out.later hb)
  have K9 := Lib.hid (K8.out.later hb)
  clear hb T8 K8 HR1
  go_wp2
  by_cases hD0 : D = 0
  · subst hD0
    obtain rfl : PV = -1 := by rw [← HPV.out, if_pos rfl]
    have CQB := Lib.hid (refBegin_any A n c)
    have CSM := Lib.hid (same_any (-1))
    have HSK : Hid (∀ V, Below W9.heap.size W9 V → (V.cell? ⟨w.heap.size, 0, none⟩ = some (.slice A n c) ∧ V.cell? ⟨g5, 0, none⟩ = some (.int .i64 (-1)) ∧ V.cell? ⟨g5, 1, none⟩ = some (.bool false) ∧ V.cell? ⟨g5, 2, none⟩ = some (.bool false) ∧ V.cell? ⟨g5, 3, none⟩ = some (.bool false) ∧ V.cell? ⟨g5, 4, none⟩ = some (.slice none 0 0)) ∧ Below W9.heap.size W9 V) := fun V hb => ⟨⟨((T9.out.later hb).cells).1, bk5 (K9.out.later hb)⟩, hb⟩
    clear HPV
    refine wp_region_held_drew (S := (fun w' : World => (w'.cell? ⟨w.heap.size, 0, none⟩ = some (.slice A n c) ∧ w'.cell? ⟨g5, 0, none⟩ = some (.int .i64 (-1)) ∧ w'.cell? ⟨g5, 1, none⟩ = some (.bool false) ∧ w'.cell? ⟨g5, 2, none⟩ = some (.bool false) ∧ w'.cell? ⟨g5, 3, none⟩ = some (.bool false) ∧ w'.cell? ⟨g5, 4, none⟩ = some (.slice none 0 0)) ∧ Below W9.heap.size W9 w')) (by kernel_rfl) ?_ ?_
    · exact HSK.out _ (Below.drew (Below.refl _ _))
    intro hHeld
    refine wpAnyH_take (i := 0) (v := ?_) rfl (by kernel_rfl) (by kernel_rfl) (by kernel_rfl) (fun _ _ _ h => h) (Or.inl ⟨by rfl, ?_⟩) (by assumption) ?_
    rotate_left
    · intro w hSw; (try dsimp only at hSw); go_split_ands; go_simp; (try (with_reducible rfl))
    try simp only [Act.put, List.getElem_toArray, List.getElem_cons_succ, List.getElem_cons_zero, List.setIfInBounds_toArray, List.set_cons_zero, List.set_cons_succ]
    refine wpAnyH_take (i := 1) (v := .bool false) rfl (by kernel_rfl) (by kernel_rfl) (by kernel_rfl) (fun _ _ _ h => h) (Or.inl ⟨by rfl, fun W hW => ?_⟩) (by assumption) ?_
    · go_split_ands; go_simp
    try simp only [Act.put, List.getElem_toArray, List.getElem_cons_succ, List.getElem_cons_zero, List.setIfInBounds_toArray, List.set_cons_zero, List.set_cons_succ]
    refine wpAnyH_take (i := 2) (v := .bool false) rfl (by kernel_rfl) (by kernel_rfl) (by kernel_rfl) (fun _ _ _ h => h) (Or.inl ⟨by rfl, fun W hW => ?_⟩) (by assumption) ?_
    · go_split_ands; go_simp
    try simp only [Act.put, List.getElem_toArray, List.getElem_cons_succ, List.getElem_cons_zero, List.setIfInBounds_toArray, List.set_cons_zero, List.set_cons_succ]
    refine wpAnyH_take (i := 3) (v := undef) rfl (by kernel_rfl) (by kernel_rfl) (by kernel_rfl) (fun _ _ _ h => h) (Or.inr ⟨by rfl, rfl⟩) (by assumption) ?_
    try simp only [Act.put, List.getElem_toArray, List.getElem_cons_succ, List.getElem_cons_zero, List.setIfInBounds_toArray, List.set_cons_zero, List.set_cons_succ]
    refine wpAnyH_take (i := 4) (v := undef) rfl (by kernel_rfl) (by kernel_rfl) (by kernel_rfl) (fun _ _ _ h => h) (Or.inr ⟨by rfl, rfl⟩) (by assumption) ?_
    try simp only [Act.put, List.getElem_toArray, List.getElem_cons_succ, List.getElem_cons_zero, List.setIfInBounds_toArray, List.set_cons_zero, List.set_cons_succ]
    refine wpAnyH_take (i := 5) (v := undef) rfl (by kernel_rfl) (by kernel_rfl) (by kernel_rfl) (fun _ _ _ h => h) (Or.inr ⟨by rfl, rfl⟩) (by assumption) ?_
    try simp only [Act.put, List.getElem_toArray, List.getElem_cons_succ, List.getElem_cons_zero, List.setIfInBounds_toArray, List.set_cons_zero, List.set_cons_succ]
    refine wpAnyH_take (i := 6) (v := undef) rfl (by kernel_rfl) (by kernel_rfl) (by kernel_rfl) (fun _ _ _ h => h) (Or.inr ⟨by rfl, rfl⟩) (by assumption) ?_
    try simp only [Act.put, List.getElem_toArray, List.getElem_cons_succ, List.getElem_cons_zero, List.setIfInBounds_toArray, List.set_cons_zero, List.set_cons_succ]
    refine wpAnyH_take (i := 7) (v := undef) rfl (by kernel_rfl) (by kernel_rfl) (by kernel_rfl) (fun _ _ _ h => h) (Or.inr ⟨by rfl, rfl⟩) (by assumption) ?_
    try simp only [Act.put, List.getElem_toArray, List.getElem_cons_succ, List.getElem_cons_zero, List.setIfInBounds_toArray, List.set_cons_zero, List.set_cons_succ]
    refine wpAnyH_take (i := 8) (v := undef) rfl (by kernel_rfl) (by kernel_rfl) (by kernel_rfl) (fun _ _ _ h => h) (Or.inr ⟨by rfl, rfl⟩) (by assumption) ?_
    try simp only [Act.put, List.getElem_toArray, List.getElem_cons_succ, List.getElem_cons_zero, List.setIfInBounds_toArray, List.set_cons_zero, List.set_cons_succ]
    refine wpAnyH_take (i := 9) (v := undef) rfl (by kernel_rfl) (by kernel_rfl) (by kernel_rfl) (fun _ _ _ h => h) (Or.inr ⟨by rfl, rfl⟩) (by assumption) ?_
    try simp only [Act.put, List.getElem_toArray, List.getElem_cons_succ, List.getElem_cons_zero, List.setIfInBounds_toArray, List.set_cons_zero, List.set_cons_succ]
    refine wpAnyH_take (i := 10) (v := undef) rfl (by kernel_rfl) (by kernel_rfl) (by kernel_rfl) (fun _ _ _ h => h) (Or.inr ⟨by rfl, rfl⟩) (by assumption) ?_
    try simp only [Act.put, List.getElem_toArray, List.getElem_cons_succ, List.getElem_cons_zero, List.setIfInBounds_toArray, List.set_cons_zero, List.set_cons_succ]
    refine wpAnyH_take (i := 11) (v := undef) rfl (by kernel_rfl) (by kernel_rfl) (by kernel_rfl) (fun _ _ _ h => h) (Or.inr ⟨by rfl, rfl⟩) (by assumption) ?_
    try simp only [Act.put, List.getElem_toArray, List.getElem_cons_succ, List.getElem_cons_zero, List.setIfInBounds_toArray, List.set_cons_zero, List.set_cons_succ]
    refine wpAnyH_take (i := 12) (v := .bool false) rfl (by kernel_rfl) (by kernel_rfl) (by kernel_rfl) (fun _ _ _ h => h) (Or.inl ⟨by rfl, fun W hW => ?_⟩) (by assumption) ?_
    · go_split_ands; go_simp
    try simp only [Act.put, List.getElem_toArray, List.getElem_cons_succ, List.getElem_cons_zero, List.setIfInBounds_toArray, List.set_cons_zero, List.set_cons_succ]
    refine wpAnyH_take (i := 13) (v := .bool false) rfl (by kernel_rfl) (by kernel_rfl) (by kernel_rfl) (fun _ _ _ h => h) (Or.inl ⟨by rfl, fun W hW => ?_⟩) (by assumption) ?_
    · go_split_ands; go_simp
    try simp only [Act.put, List.getElem_toArray, List.getElem_cons_succ, List.getElem_cons_zero, List.setIfInBounds_toArray, List.set_cons_zero, List.set_cons_succ]
    refine wpAnyH_take (i := 14) (v := ?_) rfl (by kernel_rfl) (by kernel_rfl) (by kernel_rfl) (fun _ _ _ h => h) (Or.inl ⟨by rfl, ?_⟩) (by assumption) ?_
    rotate_left
    · intro w hSw; (try dsimp only at hSw); go_split_ands; go_simp; (try (with_reducible rfl))
    try simp only [Act.put, List.getElem_toArray, List.getElem_cons_succ, List.getElem_cons_zero, List.setIfInBounds_toArray, List.set_cons_zero, List.set_cons_succ]
    refine wpAnyH_take (i := 15) (v := .bool true) rfl (by kernel_rfl) (by kernel_rfl) (by kernel_rfl) (fun _ _ _ h => h) (Or.inl ⟨by rfl, fun W hW => ?_⟩) (by assumption) ?_
    · go_split_ands; go_simp
    try simp only [Act.put, List.getElem_toArray, List.getElem_cons_succ, List.getElem_cons_zero, List.setIfInBounds_toArray, List.set_cons_zero, List.set_cons_succ]
    refine wpAnyH_take (i := 16) (v := .bool true) rfl (by kernel_rfl) (by kernel_rfl) (by kernel_rfl) (fun _ _ _ h => h) (Or.inl ⟨by rfl, fun W hW => ?_⟩) (by assumption) ?_
    · go_split_ands; go_simp
    try simp only [Act.put, List.getElem_toArray, List.getElem_cons_succ, List.getElem_cons_zero, List.setIfInBounds_toArray, List.set_cons_zero, List.set_cons_succ]
    refine wpAnyH_take (i := 17) (v := ?_) rfl (by kernel_rfl) (by kernel_rfl) (by kernel_rfl) (fun _ _ _ h => h) (Or.inl ⟨by rfl, ?_⟩) (by assumption) ?_
    rotate_left
    · intro w hSw; (try dsimp only at hSw); go_split_ands; go_simp; (try (with_reducible rfl))
    try simp only [Act.put, List.getElem_toArray, List.getElem_cons_succ, List.getElem_cons_zero, List.setIfInBounds_toArray, List.set_cons_zero, List.set_cons_succ]
    refine wpAnyH_take (i := 18) (v := .bool false) rfl (by kernel_rfl) (by kernel_rfl) (by kernel_rfl) (fun _ _ _ h => h) (Or.inl ⟨by rfl, fun W hW => ?_⟩) (by assumption) ?_
    · go_split_ands; go_simp
    try simp only [Act.put, List.getElem_toArray, List.getElem_cons_succ, List.getElem_cons_zero, List.setIfInBounds_toArray, List.set_cons_zero, List.set_cons_succ]
    refine wpAnyH_take (i := 19) (v := .bool false) rfl (by kernel_rfl) (by kernel_rfl) (by kernel_rfl) (fun _ _ _ h => h) (Or.inl ⟨by rfl, fun W hW => ?_⟩) (by assumption) ?_
    · go_split_ands; go_simp
    try simp only [Act.put, List.getElem_toArray, List.getElem_cons_succ, List.getElem_cons_zero, List.setIfInBounds_toArray, List.set_cons_zero, List.set_cons_succ]
    refine wpAnyH_take (i := 20) (v := ?_) rfl (by kernel_rfl) (by kernel_rfl) (by kernel_rfl) (fun _ _ _ h => h) (Or.inl ⟨by rfl, ?_⟩) (by assumption) ?_
    rotate_left
    · intro w hSw; (try dsimp only at hSw); go_split_ands; go_simp; (try (with_reducible rfl))
    try simp only [Act.put, List.getElem_toArray, List.getElem_cons_succ, List.getElem_cons_zero, List.setIfInBounds_toArray, List.set_cons_zero, List.set_cons_succ]
    refine wpAnyH_take (i := 21) (v := ?_) rfl (by kernel_rfl) (by kernel_rfl) (by kernel_rfl) (fun _ _ _ h => h) (Or.inl ⟨by rfl, ?_⟩) (by assumption) ?_
    rotate_left
    · intro w hSw; (try dsimp only at hSw); go_split_ands; go_simp; (try (with_reducible rfl))
    try simp only [Act.put, List.getElem_toArray, List.getElem_cons_succ, List.getElem_cons_zero, List.setIfInBounds_toArray, List.set_cons_zero, List.set_cons_succ]
    refine wpAnyH_ready (rs := [22]) (by kernel_rfl) (by simp) ?_
    refine AllReadyH.cons rfl (fun K hK => ?_) AllReadyH.nil
    rw [if_pos (by rfl)]
    go_simp
    refine (CQB.out _).mono ?_
    rintro e x1 ⟨rfl, hb'⟩
    have x1b : Below W9.heap.size W9 x1 := Below.trans (Below.drew (Below.refl W9.heap.size W9)) (hb'.mono (Below.size (Below.drew (Below.refl W9.heap.size W9))))
    clear hb'
    refine hK.out _ _ ?_ (fun hHeld => ?_)
    · clear hK K; exact HSK.out _ x1b
    clear hK K
    try simp only [List.getElem_toArray, List.getElem_cons_succ, List.getElem_cons_zero, Act.put, List.setIfInBounds_toArray, List.set_cons_zero, List.set_cons_succ]
    refine wpAnyH_ready (rs := [23]) (by kernel_rfl) (by simp) ?_
    refine AllReadyH.cons rfl (fun K hK => ?_) AllReadyH.nil
    rw [if_pos (by rfl)]
    go_simp
    refine (CSM.out _).mono ?_
    rintro e x2 ⟨rfl, hb'⟩
    have x2b : Below W9.heap.size W9 x2 := Below.trans x1b (hb'.mono (Below.size x1b))
    clear hb'
    refine hK.out _ _ ?_ (fun hHeld => ?_)
    · clear hK K; exact HSK.out _ x2b
    clear hK K
    try simp only [List.getElem_toArray, List.getElem_cons_succ, List.getElem_cons_zero, Act.put, List.setIfInBounds_toArray, List.set_cons_zero, List.set_cons_succ]
    refine wpAnyH_take (i := 24) (v := .bool false) rfl (by kernel_rfl) (by kernel_rfl) (by kernel_rfl) (fun _ _ _ h => h) (Or.inl ⟨by rfl, fun W hW => ?_⟩) (by assumption) ?_
    · go_split_ands; go_simp
    try simp only [Act.put, List.getElem_toArray, List.getElem_cons_succ, List.getElem_cons_zero, List.setIfInBounds_toArray, List.set_cons_zero, List.set_cons_succ]
    refine wpAnyH_take (i := 25) (v := .bool false) rfl (by kernel_rfl) (by kernel_rfl) (by kernel_rfl) (fun _ _ _ h => h) (Or.inl ⟨by rfl, fun W hW => ?_⟩) (by assumption) ?_
    · go_split_ands; go_simp
    try simp only [Act.put, List.getElem_toArray, List.getElem_cons_succ, List.getElem_cons_zero, List.setIfInBounds_toArray, List.set_cons_zero, List.set_cons_succ]
    refine wpAnyH_take (i := 26) (v := .bool false) rfl (by kernel_rfl) (by kernel_rfl) (by kernel_rfl) (fun _ _ _ h => h) (Or.inl ⟨by rfl, fun W hW => ?_⟩) (by assumption) ?_
    · go_split_ands; go_simp
    try simp only [Act.put, List.getElem_toArray, List.getElem_cons_succ, List.getElem_cons_zero, List.setIfInBounds_toArray, List.set_cons_zero, List.set_cons_succ]
    refine wpAnyH_take (i := 27) (v := .bool false) rfl (by kernel_rfl) (by kernel_rfl) (by kernel_rfl) (fun _ _ _ h => h) (Or.inl ⟨by rfl, fun W hW => ?_⟩) (by assumption) ?_
    · go_split_ands; go_simp
    try simp only [Act.put, List.getElem_toArray, List.getElem_cons_succ, List.getElem_cons_zero, List.setIfInBounds_toArray, List.set_cons_zero, List.set_cons_succ]
    refine wpAnyH_done (by kernel_rfl) ?_ _
    have T10 := Lib.hid (T9.out.later x2b)
    clear HSK K9 T9
    obtain ⟨W10, hW10⟩ : ∃ W, x2 = W := ⟨_, rfl⟩
    rw [hW10] at T10 ⊢
    clear hW10
    obtain ⟨r0, s0, s1, s2, s3, s4⟩ := T10.out.cells
    go_wp2_with fail
    clear r0 s0 s1 s2 s3 s4
    refine (CBE.out _ T10.out.b).mono ?_
    rintro e w11 ⟨rfl, hb⟩
    have T11 := Lib.hid (T10.out.later hb)
    clear hb T10
    have hBB : Below w11.heap.size w11 w11 := Below.refl _ _
    have HC : Hid (∀ V, Below w11.heap.size w11 V → (V.cell? ⟨w.heap.size, 0, none⟩ = some (.slice A n c) ∧ V.cell? ⟨w.heap.size + 1, 0, none⟩ = some (.int .i64 p) ∧ V.cell? ⟨w.heap.size + 1, 1, none⟩ = some (.bool h0) ∧ V.cell? ⟨w.heap.size + 1, 2, none⟩ = some (.bool h1) ∧ V.cell? ⟨w.heap.size + 1, 3, none⟩ = some (.bool h2) ∧ V.cell? ⟨w.heap.size + 1, 4, none⟩ = some (.slice B m d))) := fun V hb => (T11.out.later hb).cells
    go_wp2
    first | (go_region_held3 (fun w' : World => (w'.cell? ⟨w.heap.size, 0, none⟩ = some (.slice A n c) ∧ w'.cell? ⟨w.heap.size + 1, 0, none⟩ = some (.int .i64 p) ∧ w'.cell? ⟨w.heap.size + 1, 1, none⟩ = some (.bool h0) ∧ w'.cell? ⟨w.heap.size + 1, 2, none⟩ = some (.bool h1) ∧ w'.cell? ⟨w.heap.size + 1, 3, none⟩ = some (.bool h2) ∧ w'.cell? ⟨w.heap.size + 1, 4, none⟩ = some (.slice B m d)) ∧ Below w11.heap.size w11 w') (((refine (fun hI => ⟨HC.out _ hI, hI⟩) ?_; repeat (first | with_reducible assumption | (go_split_ands; with_reducible assumption) | with_reducible refine belowA ?_ _ | with_reducible refine Below.drew ?_)))) (first
      | (go_at_call 49; ((with_reducible refine (CRc.out _ ?_).mono ?_)); (focus (exact T11.out.b.trans (Below.mono (by first | assumption | (go_split_ands; assumption)) T11.out.b.size))); rintro e wa ⟨⟨Aa, ca, rfl, hca, hra⟩, hba⟩; have hba' : Below w11.heap.size w11 wa := Below.trans (by first | assumption | (go_split_ands; assumption)) (hba.mono (Below.size (by first | assumption | (go_split_ands; assumption)))); clear hba)
      | (go_at_call 51; ((with_reducible refine (CSc.out _ ?_).mono ?_)); (focus (exact T11.out.b.trans (Below.mono (by first | assumption | (go_split_ands; assumption)) T11.out.b.size))); rintro e wb ⟨⟨Ab, cb, rfl, hcb, hrb⟩, hbb⟩; have hra2 := hra.below hbb; have hbb' : Below w11.heap.size w11 wb := Below.trans (by first | assumption | (go_split_ands; assumption)) (hbb.mono (Below.size (by first | assumption | (go_split_ands; assumption)))); clear hbb)
      | (go_at_call 57; ((with_reducible refine (CCS.out _ _ _ _ _ hra2 hrb).mono ?_)); rintro e w12 ⟨rfl, hbc⟩; have hbc' : Below w11.heap.size w11 w12 := Below.trans (by first | assumption | (go_split_ands; assumption)) (hbc.mono (Below.size (by first | assumption | (go_split_ands; assumption)))); clear hbc hca hcb hra hra2 hrb))) | fail
    have hbn := Lib.hid hbc'
    clear hbc' hba' hbb' hBB HC
    have T12 := Lib.hid (T11.out.later hbn.out)
    clear hbn T11
    by_cases h0e : E = 0
    case neg =>
      have d1 : (E == 0) = false := by rw [beq_eq_false_iff_ne]; exact h0e
      have d2 : (E != 0) = true := by rw [bne_iff_ne]; exact h0e
      obtain rfl : SV = 0 := by rw [← HSV.out, if_neg h0e]
      clear h0e HSV
      go_wp2
      go_ret
      exact ⟨rfl, T12.out.b⟩
    subst h0e
    obtain rfl : SV = SC := by rw [← HSV.out, if_pos rfl]
    have CQ2 := Lib.hid (CQS.out rfl)
    have hSS : (SV == SV) = true := by rw [beq_iff_eq]
    clear HSV CQS
    obtain ⟨r0, s0, s1, s2, s3, s4⟩ := T12.out.cells
    go_wp2_with fail
    clear r0 s0 s1 s2 s3 s4
    refine (CQ2.out _ T12.out.b).mono ?_
    rintro e w13 ⟨rfl, hb⟩
    have T13 := Lib.hid (T12.out.later hb)
    clear hb T12
    go_wp2
    go_ret
    exact ⟨rfl, T13.out.b⟩
  · have d1 : (D == 0) = false := by rw [beq_eq_false_iff_ne]; exact hD0
    have d2 : (D != 0) = true := by rw [bne_iff_ne]; exact hD0
    obtain rfl : PV = 0 := by rw [← HPV.out, if_neg hD0]
    have CSM := Lib.hid (same_any 0)
    clear hD0
    have HSK : Hid (∀ V, Below W9.heap.size W9 V → (V.cell? ⟨w.heap.size, 0, none⟩ = some (.slice A n c) ∧ V.cell? ⟨g5, 0, none⟩ = some (.int .i64 0) ∧ V.cell? ⟨g5, 1, none⟩ = some (.bool false) ∧ V.cell? ⟨g5, 2, none⟩ = some (.bool false) ∧ V.cell? ⟨g5, 3, none⟩ = some (.bool false) ∧ V.cell? ⟨g5, 4, none⟩ = some (.slice none 0 0)) ∧ Below W9.heap.size W9 V) := fun V hb => ⟨⟨((T9.out.later hb).cells).1, bk5 (K9.out.later hb)⟩, hb⟩
    clear HPV
    refine wp_region_held_drew (S := (fun w' : World => (w'.cell? ⟨w.heap.size, 0, none⟩ = some (.slice A n c) ∧ w'.cell? ⟨g5, 0, none⟩ = some (.int .i64 0) ∧ w'.cell? ⟨g5, 1, none⟩ = some (.bool false) ∧ w'.cell? ⟨g5, 2, none⟩ = some (.bool false) ∧ w'.cell? ⟨g5, 3, none⟩ = some (.bool false) ∧ w'.cell? ⟨g5, 4, none⟩ = some (.slice none 0 0)) ∧ Below W9.heap.size W9 w')) (by kernel_rfl) ?_ ?_
    · exact HSK.out _ (Below.drew (Below.refl _ _))
    intro hHeld
    refine wpAnyH_take (i := 0) (v := ?_) rfl (by kernel_rfl) (by kernel_rfl) (by kernel_rfl) (fun _ _ _ h => h) (Or.inl ⟨by rfl, ?_⟩) (by assumption) ?_
    rotate_left
    · intro w hSw; (try dsimp only at hSw); go_split_ands; go_simp; (try (with_reducible rfl))
    try simp only [Act.put, List.getElem_toArray, List.getElem_cons_succ, List.getElem_cons_zero, List.setIfInBounds_toArray, List.set_cons_zero, List.set_cons_succ]
    refine wpAnyH_take (i := 1) (v := .bool true) rfl (by kernel_rfl) (by kernel_rfl) (by kernel_rfl) (fun _ _ _ h => h) (Or.inl ⟨by rfl, fun W hW => ?_⟩) (by assumption) ?_
    · go_split_ands; go_simp
    try simp only [Act.put, List.getElem_toArray, List.getElem_cons_succ, List.getElem_cons_zero, List.setIfInBounds_toArray, List.set_cons_zero, List.set_cons_succ]
    refine wpAnyH_take (i := 2) (v := .bool true) rfl (by kernel_rfl) (by kernel_rfl) (by kernel_rfl) (fun _ _ _ h => h) (Or.inl ⟨by rfl, fun W hW => ?_⟩) (by assumption) ?_
    · go_split_ands; go_simp
    try simp only [Act.put, List.getElem_toArray, List.getElem_cons_succ, List.getElem_cons_zero, List.setIfInBounds_toArray, List.set_cons_zero, List.set_cons_succ]
    refine wpAnyH_take (i := 3) (v := ?_) rfl (by kernel_rfl) (by kernel_rfl) (by kernel_rfl) (fun _ _ _ h => h) (Or.inl ⟨by rfl, ?_⟩) (by assumption) ?_
    rotate_left
    · intro w hSw; (try dsimp only at hSw); go_split_ands; go_simp; (try (with_reducible rfl))
    try simp only [Act.put, List.getElem_toArray, List.getElem_cons_succ, List.getElem_cons_zero, List.setIfInBounds_toArray, List.set_cons_zero, List.set_cons_succ]
    refine wpAnyH_take (i := 4) (v := ?_) rfl (by kernel_rfl) (by kernel_rfl) (by kernel_rfl) (fun _ _ _ h => h) (Or.inl ⟨by rfl, ?_⟩) (by assumption) ?_
    rotate_left
    · intro w hSw; (try dsimp only at hSw); go_split_ands; go_simp; (try (with_reducible rfl))
    try simp only [Act.put, List.getElem_toArray, List.getElem_cons_succ, List.getElem_cons_zero, List.setIfInBounds_toArray, List.set_cons_zero, List.set_cons_succ]
    refine wpAnyH_take (i := 5) (v := .bool false) rfl (by kernel_rfl) (by kernel_rfl) (by kernel_rfl) (fun _ _ _ h => h) (Or.inl ⟨by rfl, fun W hW => ?_⟩) (by assumption) ?_
    · go_split_ands; go_simp
    try simp only [Act.put, List.getElem_toArray, List.getElem_cons_succ, List.getElem_cons_zero, List.setIfInBounds_toArray, List.set_cons_zero, List.set_cons_succ]
    refine wpAnyH_take (i := 6) (v := .bool false) rfl (by kernel_rfl) (by kernel_rfl) (by kernel_rfl) (fun _ _ _ h => h) (Or.inl ⟨by rfl, fun W hW => ?_⟩) (by assumption) ?_
    · go_split_ands; go_simp
    try simp only [Act.put, List.getElem_toArray, List.getElem_cons_succ, List.getElem_cons_zero, List.setIfInBounds_toArray, List.set_cons_zero, List.set_cons_succ]
    refine wpAnyH_take (i := 7) (v := ?_) rfl (by kernel_rfl) (by kernel_rfl) (by kernel_rfl) (fun _ _ _ h => h) (Or.inl ⟨by rfl, ?_⟩) (by assumption) ?_
    rotate_left
    · intro w hSw; (try dsimp only at hSw); go_split_ands; go_simp; (try (with_reducible rfl))
    try simp only [Act.put, List.getElem_toArray, List.getElem_cons_succ, List.getElem_cons_zero, List.setIfInBounds_toArray, List.set_cons_zero, List.set_cons_succ]
    refine wpAnyH_take (i := 8) (v := ?_) rfl (by kernel_rfl) (by kernel_rfl) (by kernel_rfl) (fun _ _ _ h => h) (Or.inl ⟨by rfl, ?_⟩) (by assumption) ?_
    rotate_left
    · intro w hSw; (try dsimp only at hSw); go_split_ands; go_simp; (try (with_reducible rfl))
    try simp only [Act.put, List.getElem_toArray, List.getElem_cons_succ, List.getElem_cons_zero, List.setIfInBounds_toArray, List.set_cons_zero, List.set_cons_succ]
    refine wpAnyH_ready (rs := [9]) (by kernel_rfl) (by simp) ?_
    refine AllReadyH.cons rfl (fun K hK => ?_) AllReadyH.nil
    rw [if_pos (by rfl)]
    go_simp
    refine (CSM.out _).mono ?_
    rintro e x1 ⟨rfl, hb'⟩
    have x1b : Below W9.heap.size W9 x1 := Below.trans (Below.drew (Below.refl W9.heap.size W9)) (hb'.mono (Below.size (Below.drew (Below.refl W9.heap.size W9))))
    clear hb'
    refine hK.out _ _ ?_ (fun hHeld => ?_)
    · clear hK K; exact HSK.out _ x1b
    clear hK K
    try simp only [List.getElem_toArray, List.getElem_cons_succ, List.getElem_cons_zero, Act.put, List.setIfInBounds_toArray, List.set_cons_zero, List.set_cons_succ]
    refine wpAnyH_take (i := 10) (v := .bool false) rfl (by kernel_rfl) (by kernel_rfl) (by kernel_rfl) (fun _ _ _ h => h) (Or.inl ⟨by rfl, fun W hW => ?_⟩) (by assumption) ?_
    · go_split_ands; go_simp
    try simp only [Act.put, List.getElem_toArray, List.getElem_cons_succ, List.getElem_cons_zero, List.setIfInBounds_toArray, List.set_cons_zero, List.set_cons_succ]
    refine wpAnyH_take (i := 11) (v := .bool false) rfl (by kernel_rfl) (by kernel_rfl) (by kernel_rfl) (fun _ _ _ h => h) (Or.inl ⟨by rfl, fun W hW => ?_⟩) (by assumption) ?_
    · go_split_ands; go_simp
    try simp only [Act.put, List.getElem_toArray, List.getElem_cons_succ, List.getElem_cons_zero, List.setIfInBounds_toArray, List.set_cons_zero, List.set_cons_succ]
    refine wpAnyH_take (i := 12) (v := .bool false) rfl (by kernel_rfl) (by kernel_rfl) (by kernel_rfl) (fun _ _ _ h => h) (Or.inl ⟨by rfl, fun W hW => ?_⟩) (by assumption) ?_
    · go_split_ands; go_simp
    try simp only [Act.put, List.getElem_toArray, List.getElem_cons_succ, List.getElem_cons_zero, List.setIfInBounds_toArray, List.set_cons_zero, List.set_cons_succ]
    refine wpAnyH_take (i := 13) (v := .bool false) rfl (by kernel_rfl) (by kernel_rfl) (by kernel_rfl) (fun _ _ _ h => h) (Or.inl ⟨by rfl, fun W hW => ?_⟩) (by assumption) ?_
    · go_split_ands; go_simp
    try simp only [Act.put, List.getElem_toArray, List.getElem_cons_succ, List.getElem_cons_zero, List.setIfInBounds_toArray, List.set_cons_zero, List.set_cons_succ]
    refine wpAnyH_take (i := 14) (v := ?_) rfl (by kernel_rfl) (by kernel_rfl) (by kernel_rfl) (fun _ _ _ h => h) (Or.inl ⟨by rfl, ?_⟩) (by assumption) ?_
    rotate_left
    · intro w hSw; (try dsimp only at hSw); go_split_ands; go_simp; (try (with_reducible rfl))
    try simp only [Act.put, List.getElem_toArray, List.getElem_cons_succ, List.getElem_cons_zero, List.setIfInBounds_toArray, List.set_cons_zero, List.set_cons_succ]
    refine wpAnyH_take (i := 15) (v := .bool false) rfl (by kernel_rfl) (by kernel_rfl) (by kernel_rfl) (fun _ _ _ h => h) (Or.inl ⟨by rfl, fun W hW => ?_⟩) (by assumption) ?_
    · go_split_ands; go_simp
    try simp only [Act.put, List.getElem_toArray, List.getElem_cons_succ, List.getElem_cons_zero, List.setIfInBounds_toArray, List.set_cons_zero, List.set_cons_succ]
    refine wpAnyH_take (i := 16) (v := .bool false) rfl (by kernel_rfl) (by kernel_rfl) (by kernel_rfl) (fun _ _ _ h => h) (Or.inl ⟨by rfl, fun W hW => ?_⟩) (by assumption) ?_
    · go_split_ands; go_simp
    try simp only [Act.put, List.getElem_toArray, List.getElem_cons_succ, List.getElem_cons_zero, List.setIfInBounds_toArray, List.set_cons_zero, List.set_cons_succ]
    refine wpAnyH_take (i := 17) (v := undef) rfl (by kernel_rfl) (by kernel_rfl) (by kernel_rfl) (fun _ _ _ h => h) (Or.inr ⟨by rfl, rfl⟩) (by assumption) ?_
    try simp only [Act.put, List.getElem_toArray, List.getElem_cons_succ, List.getElem_cons_zero, List.setIfInBounds_toArray, List.set_cons_zero, List.set_cons_succ]
    refine wpAnyH_take (i := 18) (v := undef) rfl (by kernel_rfl) (by kernel_rfl) (by kernel_rfl) (fun _ _ _ h => h) (Or.inr ⟨by rfl, rfl⟩) (by assumption) ?_
    try simp only [Act.put, List.getElem_toArray, List.getElem_cons_succ, List.getElem_cons_zero, List.setIfInBounds_toArray, List.set_cons_zero, List.set_cons_succ]
    refine wpAnyH_take (i := 19) (v := undef) rfl (by kernel_rfl) (by kernel_rfl) (by kernel_rfl) (fun _ _ _ h => h) (Or.inr ⟨by rfl, rfl⟩) (by assumption) ?_
    try simp only [Act.put, List.getElem_toArray, List.getElem_cons_succ, List.getElem_cons_zero, List.setIfInBounds_toArray, List.set_cons_zero, List.set_cons_succ]
    refine wpAnyH_take (i := 20) (v := undef) rfl (by kernel_rfl) (by kernel_rfl) (by kernel_rfl) (fun _ _ _ h => h) (Or.inr ⟨by rfl, rfl⟩) (by assumption) ?_
    try simp only [Act.put, List.getElem_toArray, List.getElem_cons_succ, List.getElem_cons_zero, List.setIfInBounds_toArray, List.set_cons_zero, List.set_cons_succ]
    refine wpAnyH_take (i := 21) (v := undef) rfl (by kernel_rfl) (by kernel_rfl) (by kernel_rfl) (fun _ _ _ h => h) (Or.inr ⟨by rfl, rfl⟩) (by assumption) ?_
    try simp only [Act.put, List.getElem_toArray, List.getElem_cons_succ, List.getElem_cons_zero, List.setIfInBounds_toArray, List.set_cons_zero, List.set_cons_succ]
    refine wpAnyH_take (i := 22) (v := undef) rfl (by kernel_rfl) (by kernel_rfl) (by kernel_rfl) (fun _ _ _ h => h) (Or.inr ⟨by rfl, rfl⟩) (by assumption) ?_
    try simp only [Act.put, List.getElem_toArray, List.getElem_cons_succ, List.getElem_cons_zero, List.setIfInBounds_toArray, List.set_cons_zero, List.set_cons_succ]
    refine wpAnyH_take (i := 23) (v := undef) rfl (by kernel_rfl) (by kernel_rfl) (by kernel_rfl) (fun _ _ _ h => h) (Or.inr ⟨by rfl, rfl⟩) (by assumption) ?_
    try simp only [Act.put, List.getElem_toArray, List.getElem_cons_succ, List.getElem_cons_zero, List.setIfInBounds_toArray, List.set_cons_zero, List.set_cons_succ]
    refine wpAnyH_take (i := 24) (v := undef) rfl (by kernel_rfl) (by kernel_rfl) (by kernel_rfl) (fun _ _ _ h => h) (Or.inr ⟨by rfl, rfl⟩) (by assumption) ?_
    try simp only [Act.put, List.getElem_toArray, List.getElem_cons_succ, List.getElem_cons_zero, List.setIfInBounds_toArray, List.set_cons_zero, List.set_cons_succ]
    refine wpAnyH_take (i := 25) (v := undef) rfl (by kernel_rfl) (by kernel_rfl) (by kernel_rfl) (fun _ _ _ h => h) (Or.inr ⟨by rfl, rfl⟩) (by assumption) ?_
    try simp only [Act.put, List.getElem_toArray, List.getElem_cons_succ, List.getElem_cons_zero, List.setIfInBounds_toArray, List.set_cons_zero, List.set_cons_succ]
    refine wpAnyH_take (i := 26) (v := .bool false) rfl (by kernel_rfl) (by kernel_rfl) (by kernel_rfl) (fun _ _ _ h => h) (Or.inl ⟨by rfl, fun W hW => ?_⟩) (by assumption) ?_
    · go_split_ands; go_simp
    try simp only [Act.put, List.getElem_toArray, List.getElem_cons_succ, List.getElem_cons_zero, List.setIfInBounds_toArray, List.set_cons_zero, List.set_cons_succ]
    refine wpAnyH_take (i := 27) (v := .bool false) rfl (by kernel_rfl) (by kernel_rfl) (by kernel_rfl) (fun _ _ _ h => h) (Or.inl ⟨by rfl, fun W hW => ?_⟩) (by assumption) ?_
    · go_split_ands; go_simp
    try simp only [Act.put, List.getElem_toArray, List.getElem_cons_succ, List.getElem_cons_zero, List.setIfInBounds_toArray, List.set_cons_zero, List.set_cons_succ]
    refine wpAnyH_done (by kernel_rfl) ?_ _
    have T10 := Lib.hid (T9.out.later x1b)
    clear HSK K9 T9
    obtain ⟨W10, hW10⟩ : ∃ W, x1 = W := ⟨_, rfl⟩
    rw [hW10] at T10 ⊢
    clear hW10
    obtain ⟨r0, s0, s1, s2, s3, s4⟩ := T10.out.cells
    go_wp2_with fail
    clear r0 s0 s1 s2 s3 s4
    refine (CBE.out _ T10.out.b).mono ?_
    rintro e w11 ⟨rfl, hb⟩
    have T11 := Lib.hid (T10.out.later hb)
    clear hb T10
    have hBB : Below w11.heap.size w11 w11 := Below.refl _ _
    have HC : Hid (∀ V, Below w11.heap.size w11 V → (V.cell? ⟨w.heap.size, 0, none⟩ = some (.slice A n c) ∧ V.cell? ⟨w.heap.size + 1, 0, none⟩ = some (.int .i64 p) ∧ V.cell? ⟨w.heap.size + 1, 1, none⟩ = some (.bool h0) ∧ V.cell? ⟨w.heap.size + 1, 2, none⟩ = some (.bool h1) ∧ V.cell? ⟨w.heap.size + 1, 3, none⟩ = some (.bool h2) ∧ V.cell? ⟨w.heap.size + 1, 4, none⟩ = some (.slice B m d))) := fun V hb => (T11.out.later hb).cells
    go_wp2
    first | (go_region_held3 (fun w' : World => (w'.cell? ⟨w.heap.size, 0, none⟩ = some (.slice A n c) ∧ w'.cell? ⟨w.heap.size + 1, 0, none⟩ = some (.int .i64 p) ∧ w'.cell? ⟨w.heap.size + 1, 1, none⟩ = some (.bool h0) ∧ w'.cell? ⟨w.heap.size + 1, 2, none⟩ = some (.bool h1) ∧ w'.cell? ⟨w.heap.size + 1, 3, none⟩ = some (.bool h2) ∧ w'.cell? ⟨w.heap.size + 1, 4, none⟩ = some (.slice B m d)) ∧ Below w11.heap.size w11 w') (((refine (fun hI => ⟨HC.out _ hI, hI⟩) ?_; repeat (first | with_reducible assumption | (go_split_ands; with_reducible assumption) | with_reducible refine belowA ?_ _ | with_reducible refine Below.drew ?_)))) (first
      | (go_at_call 49; ((with_reducible refine (CRc.out _ ?_).mono ?_)); (focus (exact T11.out.b.trans (Below.mono (by first | assumption | (go_split_ands; assumption)) T11.out.b.size))); rintro e wa ⟨⟨Aa, ca, rfl, hca, hra⟩, hba⟩; have hba' : Below w11.heap.size w11 wa := Below.trans (by first | assumption | (go_split_ands; assumption)) (hba.mono (Below.size (by first | assumption | (go_split_ands; assumption)))); clear hba)
      | (go_at_call 51; ((with_reducible refine (CSc.out _ ?_).mono ?_)); (focus (exact T11.out.b.trans (Below.mono (by first | assumption | (go_split_ands; assumption)) T11.out.b.size))); rintro e wb ⟨⟨Ab, cb, rfl, hcb, hrb⟩, hbb⟩; have hra2 := hra.below hbb; have hbb' : Below w11.heap.size w11 wb := Below.trans (by first | assumption | (go_split_ands; assumption)) (hbb.mono (Below.size (by first | assumption | (go_split_ands; assumption)))); clear hbb)
      | (go_at_call 57; ((with_reducible refine (CCS.out _ _ _ _ _ hra2 hrb).mono ?_)); rintro e w12 ⟨rfl, hbc⟩; have hbc' : Below w11.heap.size w11 w12 := Below.trans (by first | assumption | (go_split_ands; assumption)) (hbc.mono (Below.size (by first | assumption | (go_split_ands; assumption)))); clear hbc hca hcb hra hra2 hrb))) | fail
    have hbn := Lib.hid hbc'
    clear hbc' hba' hbb' hBB HC
    have T12 := Lib.hid (T11.out.later hbn.out)
    clear hbn T11
    by_cases h0e : E = 0
    case neg =>
      have d1 : (E == 0) = false := by rw [beq_eq_false_iff_ne]; exact h0e
      have d2 : (E != 0) = true := by rw [bne_iff_ne]; exact h0e
      obtain rfl : SV = 0 := by rw [← HSV.out, if_neg h0e]
      clear h0e HSV
      go_wp2
      go_ret
      exact ⟨rfl, T12.out.b⟩
    subst h0e
    obtain rfl : SV = SC := by rw [← HSV.out, if_pos rfl]
    have CQ2 := Lib.hid (CQS.out rfl)
    have hSS : (SV == SV) = true := by rw [beq_iff_eq]
    clear HSV CQS
    obtain ⟨r0, s0, s1, s2, s3, s4⟩ := T12.out.cells
    go_wp2_with fail
    clear r0 s0 s1 s2 s3 s4
    refine (CQ2.out _ T12.out.b).mono ?_
    rintro e w13 ⟨rfl, hb⟩
    have T13 := Lib.hid (T12.out.later hb)
    clear hb T12
    go_wp2
    go_ret
    exact ⟨rfl, T13.out.b⟩

theorem states_any (A : Option Addr) (n c : Nat) (p : Int) (h0 h1 h2 : Bool) (B : Option Addr) (m d : Nat) (hs xs : List Int) (w : World) (hr : RdI w A n hs) (ha : RdI w B m xs) (hA : A = none → n = 0 ∧ c = 0) (hB : B = none → m = 0 ∧ d = 0) :
    Calls Try.prog 9 #[.agg #[.slice A n c], .agg #[.int .i64 p, .bool h0, .bool h1, .bool h2, .slice B m d]] w fun e w' => e = .returned (.bool true) ∧ Below w.heap.size w w' := by
  by_cases h : n ≤ 12 ∧ m ≤ 12
  · exact states_m A n c p h0 h1 h2 B m d hs xs w hr ha hA hB h.1 h.2
  · refine states_x A n c p h0 h1 h2 B m d w ?_
    simp only [Bool.and_eq_false_iff, decide_eq_false_iff_not]
    omega

end Go.Proofs.Ytccoflhoggpgoaa

namespace Go.Proofs.Ytccoflhoggpgoaa.op
open Go.ChangeShapes Go.WideShapes Go.ChangeAt Go.RowKit

theorem own : ownKnob Try.prog.godebug = none := by kernel_rfl
theorem laidOut : laidOutB Try.prog = true := by kernel_rfl
theorem cellsInt1 : Try.prog.cellsOf 3 = 1 := by kernel_rfl
theorem cellsI : Try.prog.cellsOf 3 = 1 := cellsInt1
theorem cellsInts : Try.prog.cellsOf 43 = 1 := by kernel_rfl
theorem lt_of_cell {w : World} {a : Addr} {v : Value} (h : w.cell? a = some v) : a.block < w.heap.size := World.block_lt_of_cell? _ _ h

set_option maxRecDepth 100000 in
theorem open_frac {H : Type} {enc : TypeId × Value → H} {w : World} {base : Nat} {spare : Nat → Bool} {held : Bool} {r : Reach} {b0 : Nat} {v : Value} {d : DataW H} {p : List MemPlace}
    (hv : Value.okWide Try.prog w r b0 23 v) (h : DataW.Trod enc Try.prog w base spare held 23 v d p) :
    ∃ z0 z1 : Int, v = .agg #[.int .i64 z0, .int .i64 z1] := by
  obtain ⟨cs, rfl, hsz⟩ := okWide_struct Try.underlying23 hv
  obtain ⟨fuel, hf⟩ := h
  obtain ⟨xs, n, _, _, hl, hxl, hg⟩ := DataW.trod_struct Try.underlying23 hf
  have h3 : Try.prog.cellsOf 23 = 2 := by kernel_rfl
  obtain ⟨l⟩ := cs
  have hl3 : l.length = 2 := by rw [← h3]; simpa using hsz
  match l, hl3, xs, hxl with
  | [c0, c1], _, [y0, y1], _ =>
    have g0 := hg 0 _ rfl
    have g1 := hg 1 _ rfl
    simp [Value.cells, cellsI] at g0 g1
    obtain ⟨z0, e0, _, _⟩ := DataW.trod_int Try.underlying3 g0
    obtain ⟨z1, e1, _, _⟩ := DataW.trod_int Try.underlying3 g1
    simp at e0 e1
    exact ⟨z0, z1, by rw [e0, e1]⟩

set_option maxRecDepth 100000 in
theorem open_test {H : Type} {enc : TypeId × Value → H} {w : World} {base : Nat} {spare : Nat → Bool} {held : Bool} {r : Reach} {b0 : Nat} {v : Value} {d : DataW H} {p : List MemPlace}
    (hv : Value.okWide Try.prog w r b0 108 v) (h : DataW.Trod enc Try.prog w base spare held 108 v d p) :
    ∃ z0 z1 z2 : Int, v = .agg #[.int .i64 z0, .int .i64 z1, .int .i64 z2] := by
  obtain ⟨cs, rfl, hsz⟩ := okWide_struct Try.underlying108 hv
  obtain ⟨fuel, hf⟩ := h
  obtain ⟨xs, n, _, _, hl, hxl, hg⟩ := DataW.trod_struct Try.underlying108 hf
  have h3 : Try.prog.cellsOf 108 = 3 := by kernel_rfl
  obtain ⟨l⟩ := cs
  have hl3 : l.length = 3 := by rw [← h3]; simpa using hsz
  match l, hl3, xs, hxl with
  | [c0, c1, c2], _, [y0, y1, y2], _ =>
    have g0 := hg 0 _ rfl
    have g1 := hg 1 _ rfl
    have g2 := hg 2 _ rfl
    simp [Value.cells, cellsI] at g0 g1 g2
    obtain ⟨z0, e0, _, _⟩ := DataW.trod_int Try.underlying3 g0
    obtain ⟨z1, e1, _, _⟩ := DataW.trod_int Try.underlying3 g1
    obtain ⟨z2, e2, _, _⟩ := DataW.trod_int Try.underlying3 g2
    simp at e0 e1 e2
    exact ⟨z0, z1, z2, by rw [e0, e1, e2]⟩

set_option maxRecDepth 100000 in
theorem open_meter {H : Type} {enc : TypeId × Value → H} {w : World} {base : Nat} {spare : Nat → Bool} {held : Bool} {r : Reach} {b0 : Nat} {v : Value} {d : DataW H} {p : List MemPlace}
    (hv : Value.okWide Try.prog w r b0 42 v) (h : DataW.Trod enc Try.prog w base spare held 42 v d p) :
    ∃ z0 z1 z2 z3 : Int, v = .agg #[.int .i64 z0, .int .i64 z1, .int .i64 z2, .int .i64 z3] := by
  obtain ⟨cs, rfl, hsz⟩ := okWide_struct Try.underlying42 hv
  obtain ⟨fuel, hf⟩ := h
  obtain ⟨xs, n, _, _, hl, hxl, hg⟩ := DataW.trod_struct Try.underlying42 hf
  have h3 : Try.prog.cellsOf 42 = 4 := by kernel_rfl
  obtain ⟨l⟩ := cs
  have hl3 : l.length = 4 := by rw [← h3]; simpa using hsz
  match l, hl3, xs, hxl with
  | [c0, c1, c2, c3], _, [y0, y1, y2, y3], _ =>
    have g0 := hg 0 _ rfl
    have g1 := hg 1 _ rfl
    have g2 := hg 2 _ rfl
    have g3 := hg 3 _ rfl
    simp [Value.cells, cellsI] at g0 g1 g2 g3
    obtain ⟨z0, e0, _, _⟩ := DataW.trod_int Try.underlying3 g0
    obtain ⟨z1, e1, _, _⟩ := DataW.trod_int Try.underlying3 g1
    obtain ⟨z2, e2, _, _⟩ := DataW.trod_int Try.underlying3 g2
    obtain ⟨z3, e3, _, _⟩ := DataW.trod_int Try.underlying3 g3
    simp at e0 e1 e2 e3
    exact ⟨z0, z1, z2, z3, by rw [e0, e1, e2, e3]⟩

/-- Numbers as they come in. -/
theorem open_rd {H : Type} {enc : TypeId × Value → H} {w : World} {base : Nat} {spare : Nat → Bool} {held : Bool} {A : Option Addr} {n c : Nat} {d : DataW H} {p : List MemPlace}
    (h : DataW.Trod enc Try.prog w base spare held 43 (.slice A n c) d p) : ∃ l, RdI w A n l ∧ n ≤ c ∧ c ≤ 9223372036854775807 ∧ (A = none → n = 0 ∧ c = 0) := by
  obtain ⟨fuel, hf⟩ := h
  rcases open_ints Try.underlying43 Try.underlying3 cellsInt1 hf with ⟨hcs, _⟩ | ⟨a, len, cap, zs, hcs, _, hl, hm, hz, _, hcell, _⟩
  · simp [Value.cells] at hcs
    obtain ⟨rfl, rfl, rfl⟩ := hcs
    exact ⟨[], ⟨rfl, fun h => absurd h (by omega)⟩, by omega, by omega, fun _ => ⟨rfl, rfl⟩⟩
  · simp [Value.cells] at hcs
    obtain ⟨rfl, rfl, rfl⟩ := hcs
    have hlen : n ≤ zs.length := by rw [hz]; split <;> omega
    refine ⟨zs.take n, ⟨by rw [List.length_take]; omega, fun hn => ⟨a, rfl, ?_, fun j hj => ?_⟩⟩, hl, by unfold maxLen at hm; omega, fun h => by cases h⟩
    · have := lt_of_cell (hcell 0 (by omega))
      rwa [addBlock] at this
    · rw [hcell j (by omega)]
      simp [List.getD_eq_getElem?_getD, List.getElem?_take, hj]

/-- Numbers of a field as they come in. -/
theorem open_rdf {H : Type} {enc : TypeId × Value → H} {w : World} {base : Nat} {spare : Nat → Bool} {held : Bool} {fuel : Nat} {v : Value} {x : DataW H × List MemPlace}
    (hf : DataW.trod enc Try.prog w base spare held fuel 43 [v] = some x) : ∃ A n c l, v = .slice A n c ∧ RdI w A n l ∧ n ≤ c ∧ c ≤ 9223372036854775807 ∧ (A = none → n = 0 ∧ c = 0) := by
  rcases open_ints Try.underlying43 Try.underlying3 cellsInt1 hf with ⟨hcs, _⟩ | ⟨a, len, cap, zs, hcs, _, hl, hm, hz, _, hcell, _⟩
  · injection hcs with hcs
    exact ⟨none, 0, 0, [], hcs, ⟨rfl, fun h => absurd h (by omega)⟩, by omega, by omega, fun _ => ⟨rfl, rfl⟩⟩
  · injection hcs with hcs
    have hlen : len ≤ zs.length := by rw [hz]; split <;> omega
    refine ⟨some a, len, cap, zs.take len, hcs, ⟨by rw [List.length_take]; omega, fun hn => ⟨a, rfl, ?_, fun j hj => ?_⟩⟩, hl, by unfold maxLen at hm; omega, fun h => by cases h⟩
    · have := lt_of_cell (hcell 0 (by omega))
      rwa [addBlock] at this
    · rw [hcell j (by omega)]
      simp [List.getD_eq_getElem?_getD, List.getElem?_take, hj]
end Go.Proofs.Ytccoflhoggpgoaa.op

namespace Go.Proofs.Ytccoflhoggpgoaa.op
open Go.ChangeShapes Go.WideShapes Go.ChangeAt Go.RowKit

set_option maxRecDepth 100000 in
theorem openb_frac {H : Type} {enc : TypeId × Value → H} {w : World} {base : Nat} {spare : Nat → Bool} {held : Bool} {r : Reach} {b0 : Nat} {v : Value} {d : DataW H} {p : List MemPlace}
    (hv : Value.okWide Try.prog w r b0 23 v) (h : DataW.Trod enc Try.prog w base spare held 23 v d p) :
    ∃ z0 z1 : Int, v = .agg #[.int .i64 z0, .int .i64 z1] ∧ (-9223372036854775808 ≤ z0 ∧ z0 ≤ 9223372036854775807) ∧ (-9223372036854775808 ≤ z1 ∧ z1 ≤ 9223372036854775807) := by
  obtain ⟨cs, rfl, hsz⟩ := okWide_struct Try.underlying23 hv
  obtain ⟨fuel, hf⟩ := h
  obtain ⟨xs, n, _, _, hl, hxl, hg⟩ := DataW.trod_struct Try.underlying23 hf
  have h3 : Try.prog.cellsOf 23 = 2 := by kernel_rfl
  obtain ⟨l⟩ := cs
  have hl3 : l.length = 2 := by rw [← h3]; simpa using hsz
  match l, hl3, xs, hxl with
  | [c0, c1], _, [y0, y1], _ =>
    have g0 := hg 0 _ rfl
    have g1 := hg 1 _ rfl
    simp [Value.cells, cellsI] at g0 g1
    obtain ⟨z0, e0, _, f0⟩ := DataW.trod_int Try.underlying3 g0
    obtain ⟨z1, e1, _, f1⟩ := DataW.trod_int Try.underlying3 g1
    simp at e0 e1
    exact ⟨z0, z1, by rw [e0, e1], bounds_i64 f0, bounds_i64 f1⟩

set_option maxRecDepth 100000 in
theorem openb_meter {H : Type} {enc : TypeId × Value → H} {w : World} {base : Nat} {spare : Nat → Bool} {held : Bool} {r : Reach} {b0 : Nat} {v : Value} {d : DataW H} {p : List MemPlace}
    (hv : Value.okWide Try.prog w r b0 42 v) (h : DataW.Trod enc Try.prog w base spare held 42 v d p) :
    ∃ z0 z1 z2 z3 : Int, v = .agg #[.int .i64 z0, .int .i64 z1, .int .i64 z2, .int .i64 z3] ∧ (-9223372036854775808 ≤ z0 ∧ z0 ≤ 9223372036854775807) ∧ (-9223372036854775808 ≤ z1 ∧ z1 ≤ 9223372036854775807) ∧ (-9223372036854775808 ≤ z2 ∧ z2 ≤ 9223372036854775807) ∧ (-9223372036854775808 ≤ z3 ∧ z3 ≤ 9223372036854775807) := by
  obtain ⟨cs, rfl, hsz⟩ := okWide_struct Try.underlying42 hv
  obtain ⟨fuel, hf⟩ := h
  obtain ⟨xs, n, _, _, hl, hxl, hg⟩ := DataW.trod_struct Try.underlying42 hf
  have h3 : Try.prog.cellsOf 42 = 4 := by kernel_rfl
  obtain ⟨l⟩ := cs
  have hl3 : l.length = 4 := by rw [← h3]; simpa using hsz
  match l, hl3, xs, hxl with
  | [c0, c1, c2, c3], _, [y0, y1, y2, y3], _ =>
    have g0 := hg 0 _ rfl
    have g1 := hg 1 _ rfl
    have g2 := hg 2 _ rfl
    have g3 := hg 3 _ rfl
    simp [Value.cells, cellsI] at g0 g1 g2 g3
    obtain ⟨z0, e0, _, f0⟩ := DataW.trod_int Try.underlying3 g0
    obtain ⟨z1, e1, _, f1⟩ := DataW.trod_int Try.underlying3 g1
    obtain ⟨z2, e2, _, f2⟩ := DataW.trod_int Try.underlying3 g2
    obtain ⟨z3, e3, _, f3⟩ := DataW.trod_int Try.underlying3 g3
    simp at e0 e1 e2 e3
    exact ⟨z0, z1, z2, z3, by rw [e0, e1, e2, e3], bounds_i64 f0, bounds_i64 f1, bounds_i64 f2, bounds_i64 f3⟩

theorem openb_int {H : Type} {enc : TypeId × Value → H} {w : World} {base : Nat} {spare : Nat → Bool} {held : Bool} {z : Int} {d : DataW H} {p : List MemPlace}
    (h : DataW.Trod enc Try.prog w base spare held 3 (.int .i64 z) d p) : -9223372036854775808 ≤ z ∧ z ≤ 9223372036854775807 := by
  obtain ⟨fuel, hf⟩ := h
  obtain ⟨z0, e0, _, f0⟩ := DataW.trod_int Try.underlying3 hf
  simp [Value.cells] at e0
  subst e0
  exact bounds_i64 f0
end Go.Proofs.Ytccoflhoggpgoaa.op

namespace Go.Proofs.Ytccoflhoggpgoaa.op
open Go.ChangeShapes Go.WideShapes Go.ChangeAt Go.RowKit

theorem cellsB3 : Try.prog.cellsOf 77 = 3 := by kernel_rfl
theorem cellsB1 : Try.prog.cellsOf 4 = 1 := by kernel_rfl
set_option maxRecDepth 100000 in
theorem open_rules {H : Type} {enc : TypeId × Value → H} {w : World} {base : Nat} {spare : Nat → Bool} {held : Bool} {r : Reach} {b0 : Nat} {v : Value} {d : DataW H} {p : List MemPlace}
    (hv : Value.okWide Try.prog w r b0 76 v) (h : DataW.Trod enc Try.prog w base spare held 76 v d p) :
    ∃ A n c l, v = .agg #[.slice A n c] ∧ RdI w A n l ∧ n ≤ c ∧ (A = none → n = 0 ∧ c = 0) := by
  obtain ⟨cs, rfl, hsz⟩ := okWide_struct Try.underlying76 hv
  obtain ⟨fuel, hf⟩ := h
  obtain ⟨xs, n, _, _, hl, hxl, hg⟩ := DataW.trod_struct Try.underlying76 hf
  have h3 : Try.prog.cellsOf 76 = 1 := by kernel_rfl
  obtain ⟨l⟩ := cs
  have hl3 : l.length = 1 := by rw [← h3]; simpa using hsz
  match l, hl3, xs, hxl with
  | [c0], _, [y0], _ =>
    have g0 := hg 0 _ rfl
    simp [Value.cells, cellsInts] at g0
    obtain ⟨A, m, c, l', e0, r0, nc, _, nn⟩ := open_rdf g0
    exact ⟨A, m, c, l', by rw [e0], r0, nc, nn⟩
set_option maxRecDepth 100000 in
theorem open_state {H : Type} {enc : TypeId × Value → H} {w : World} {base : Nat} {spare : Nat → Bool} {held : Bool} {r : Reach} {b0 : Nat} {v : Value} {d : DataW H} {p : List MemPlace}
    (hv : Value.okWide Try.prog w r b0 79 v) (h : DataW.Trod enc Try.prog w base spare held 79 v d p) :
    ∃ z b1 b2 b3 A n c l, v = .agg #[.int .i64 z, .bool b1, .bool b2, .bool b3, .slice A n c] ∧ RdI w A n l ∧ n ≤ c ∧ (A = none → n = 0 ∧ c = 0) := by
  obtain ⟨cs, rfl, hsz⟩ := okWide_struct Try.underlying79 hv
  obtain ⟨fuel, hf⟩ := h
  obtain ⟨xs, n, _, _, hl, hxl, hg⟩ := DataW.trod_struct Try.underlying79 hf
  have h3 : Try.prog.cellsOf 79 = 5 := by kernel_rfl
  obtain ⟨l⟩ := cs
  have hl3 : l.length = 5 := by rw [← h3]; simpa using hsz
  match l, hl3, xs, hxl with
  | [c0, c1, c2, c3, c4], _, [y0, y1, y2], _ =>
    have g0 := hg 0 _ rfl
    have g1 := hg 1 _ rfl
    have g2 := hg 2 _ rfl
    simp [Value.cells, cellsI, cellsInts, cellsB3] at g0 g1 g2
    obtain ⟨z0, e0, _, _⟩ := DataW.trod_int Try.underlying3 g0
    obtain ⟨q0, q1, q2, m', _, k0, k1, k2⟩ := trod_array3 Try.underlying77 cellsB1 g1
    obtain ⟨b1, f1, _⟩ := DataW.trod_bool Try.underlying4 k0
    obtain ⟨b2, f2, _⟩ := DataW.trod_bool Try.underlying4 k1
    obtain ⟨b3, f3, _⟩ := DataW.trod_bool Try.underlying4 k2
    obtain ⟨A, m, c, l', e4, r4, nc, _, nn⟩ := open_rdf g2
    simp at e0 f1 f2 f3
    exact ⟨z0, b1, b2, b3, A, m, c, l', by rw [e0, f1, f2, f3, e4], r4, nc, nn⟩
end Go.Proofs.Ytccoflhoggpgoaa.op

