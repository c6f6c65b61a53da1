import Derived.Test.YtghpofhpkbgckaaP9

namespace Go.Proofs.Ytghpofhpkbgckaa
open Go.RowKit

/-! ### the greatest output -/
def moE (cs : List Int) (b a : Int) : Int := firstNZ [fltE cs b, ampE a]
def moN (cs : List Int) (b a : Int) : Int := if moE cs b a = 0 then frN (absS cs cs.length * a) b else 0
def moD (cs : List Int) (b a : Int) : Int := if moE cs b a = 0 then frD (absS cs cs.length * a) b else 0
theorem absS_bd {cs : List Int} (hc : ∀ c ∈ cs, -1000 ≤ c ∧ c ≤ 1000) : ∀ k : Nat, 0 ≤ absS cs k ∧ absS cs k ≤ 1000 * (k : Int)
  | 0 => by simp [absS]
  | k + 1 => by
    have ih := absS_bd hc k
    have h := absF_bd (cs.getD k 0) 1000 (getD_bd (by omega) hc k)
    show 0 ≤ absS cs k + absF (cs.getD k 0) ∧ absS cs k + absF (cs.getD k 0) ≤ _
    omega
theorem absP_bd {cs : List Int} (hc : ∀ c ∈ cs, -1000 ≤ c ∧ c ≤ 1000) {a : Int} (ha : 0 ≤ a ∧ a ≤ 32767) (k : Nat) (hk : k ≤ 8) : 0 ≤ absS cs k * a ∧ absS cs k * a ≤ 262136000 := by
  have h := absS_bd hc k
  have h1 := mul_bd (a := absS cs k) (b := a) (A := 8000) (B := 32767) (by omega) (by omega) (by omega) (by omega)
  have h2 : 0 ≤ absS cs k * a := Int.mul_nonneg h.1 ha.1
  omega
theorem moE_zero {cs : List Int} {b a : Int} (h : moE cs b a = 0) : ((1 ≤ cs.length ∧ cs.length ≤ 8) ∧ (∀ c ∈ cs, -1000 ≤ c ∧ c ≤ 1000) ∧ 1 ≤ b ∧ b ≤ 1000) ∧ 0 ≤ a ∧ a ≤ 32767 :=
  ⟨fltE_zero (firstNZ_zero h (fltE cs b) (by simp)), ampE_zero (firstNZ_zero h (ampE a) (by simp))⟩
theorem cell2 {W : World} {g : Nat} {t : TypeId} {x y : Value} (h : Bk W g t #[x, y]) : W.cell? ⟨g, 0, none⟩ = some x ∧ W.cell? ⟨g, 1, none⟩ = some y ∧ W.frozen? ⟨g, 0, none⟩ = false ∧ W.frozen? ⟨g, 1, none⟩ = false :=
  ⟨by rw [h.cell]; rfl, by rw [h.cell]; rfl, h.frozen 0, h.frozen 1⟩
set_option maxRecDepth 100000 in
set_option maxHeartbeats 4000000 in
theorem MaximumOutput_any (A : Option Addr) (n c : Nat) (b : Int) (cs : List Int) (a : Int) (w : World) (hr : RdI w A n cs) (hn : n ≤ 1000000) :
    Calls Try.prog 33 #[.agg #[.slice A n c, .int .i64 b], .int .i64 a] w fun e w' => e = .returned (.tuple #[.agg #[.int .i64 (moN cs b a), .int .i64 (moD cs b a)], .int .i64 (moE cs b a)]) ∧ Below w.heap.size w w' := by
  have CQ : Hid (∀ W, RdI W A n cs → Calls Try.prog 31 #[.agg #[.slice A n c, .int .i64 b]] W fun e w' => e = .returned (.int .i64 (fltE cs b)) ∧ Below W.heap.size W w') := fun W h => CheckFilter_any A n c cs b W h (by omega)
  have CA := Lib.hid (fun W => checkAmplitude_any a W)
  have HCN : Hid (cs.length = n) := hr.1
  have HE : Hid (firstNZ [fltE cs b, ampE a] = moE cs b a) := rfl
  have HOK : Hid (moE cs b a = 0 → _) := fun h => moE_zero h
  have HN : Hid (moN cs b a = if moE cs b a = 0 then frN (absS cs cs.length * a) b else 0) := rfl
  have HD : Hid (moD cs b a = if moE cs b a = 0 then frD (absS cs cs.length * a) b else 0) := rfl
  rw [HCN.out] at HN HD
  obtain ⟨x, hx⟩ : ∃ z, moN cs b a = z := ⟨_, rfl⟩
  obtain ⟨y, hy⟩ : ∃ z, moD cs b a = z := ⟨_, rfl⟩
  rw [hx] at HN ⊢
  rw [hy] at HD ⊢
  obtain ⟨E, hE⟩ : ∃ E, moE cs b a = E := ⟨_, rfl⟩
  rw [hE] at HE HOK HN HD ⊢
  obtain ⟨E1, hE1⟩ : ∃ E, fltE cs b = E := ⟨_, rfl⟩
  obtain ⟨E2, hE2⟩ : ∃ E, ampE a = E := ⟨_, rfl⟩
  rw [hE1] at HE CQ
  rw [hE2] at HE CA
  clear hx hy hE hE1 hE2
  have X0 := Lib.hid (hr.below (below2 w (.cells #[.slice A n c, .int .i64 b] 45) (.cells #[.int .i64 0, .int .i64 0] 28)))
  have K0 := Lib.hid ((Bk.new w 45 #[.slice A n c, .int .i64 b]).alloc (.cells #[.int .i64 0, .int .i64 0] 28))
  have R0 : Hid (Bk ((w.alloc (.cells #[.slice A n c, .int .i64 b] 45)).alloc (.cells #[.int .i64 0, .int .i64 0] 28)) (w.heap.size + 1) 28 #[.int .i64 0, .int .i64 0]) := by
    have := Bk.new (w.alloc (.cells #[.slice A n c, .int .i64 b] 45)) 28 #[.int .i64 0, .int .i64 0]
    refine Lib.hid ?_
    simpa using this
  have B0 := Lib.hid (below2 w (.cells #[.slice A n c, .int .i64 b] 45) (.cells #[.int .i64 0, .int .i64 0] 28))
  clear hr
  go_enter Try.func33, Try.ntmps33
  obtain ⟨d0, d1⟩ := bkf2 K0.out
  go_wp2_with fail
  refine (CQ.out _ X0.out).mono ?_
  rintro e w1 ⟨rfl, hb⟩
  have X1 := Lib.hid (X0.out.below hb)
  have K1 := Lib.hid (K0.out.later hb)
  have R1 := Lib.hid (R0.out.later hb)
  have B1 := Lib.hid (B0.out.trans (hb.mono B0.out.size))
  clear X0 K0 R0 B0 hb
  clear d0 d1
  go_wp2_with fail
  refine (CA.out _).mono ?_
  rintro e w2 ⟨rfl, hb⟩
  have X2 := Lib.hid (X1.out.below hb)
  have K2 := Lib.hid (K1.out.later hb)
  have R2 := Lib.hid (R1.out.later hb)
  have B2 := Lib.hid (B1.out.trans (hb.mono B1.out.size))
  clear X1 K1 R1 B1 hb
  have X3 := Lib.hid (X2.out.below (below1 w2 (.cells #[.int .i64 E1, .int .i64 E2] 29)))
  have K3 := Lib.hid (K2.out.alloc (.cells #[.int .i64 E1, .int .i64 E2] 29))
  have R3 := Lib.hid (R2.out.alloc (.cells #[.int .i64 E1, .int .i64 E2] 29))
  have B3 := Lib.hid (B2.out.alloc B2.out.size (.cells #[.int .i64 E1, .int .i64 E2] 29))
  clear X2 K2 R2 B2
  go_wp2_with fail
  refine (firstError2 (E1 := E1) (E2 := E2) (F := E) HE.out _ _ ?_ ?_).mono ?_
  · simp [go_sem]
  · simp [go_sem]
  rintro e w' ⟨rfl, rfl⟩
  obtain ⟨w3, hw3⟩ : ∃ W, w2.alloc (.cells #[.int .i64 E1, .int .i64 E2] 29) = W := ⟨_, rfl⟩
  rw [hw3] at X3 K3 R3 B3 ⊢
  clear hw3
  clear HE CQ CA
  obtain ⟨d0, d1⟩ := bkf2 K3.out
  obtain ⟨e0, e1, f0, f1⟩ := cell2 R3.out
  by_cases h0 : E = 0
  · subst h0
    obtain ⟨hok, ha⟩ := HOK.out rfl
    have hn8 : n ≤ 8 := by have := HCN.out; omega
    have HC : Hid (∀ k, -1000 ≤ cs.getD k 0 ∧ cs.getD k 0 ≤ 1000) := fun k => getD_bd (by omega) hok.2.1 k
    have HP : Hid (∀ k, k ≤ 8 → 0 ≤ absS cs k * a ∧ absS cs k * a ≤ 262136000) := fun k hk => absP_bd hok.2.1 ha k hk
    have HS : Hid (∀ k, absS cs (k + 1) * a = absS cs k * a + absF (cs.getD k 0) * a) := fun k => by show (absS cs k + absF (cs.getD k 0)) * a = _; rw [Int.add_mul]
    have H0 : Hid (absS cs 0 * a = 0) := by show (0 : Int) * a = 0; simp
    obtain ⟨P, hP⟩ : ∃ P : Nat → Int, (fun k => absS cs k * a) = P := ⟨_, rfl⟩
    have HPP : ∀ k, absS cs k * a = P k := fun k => by rw [← hP]
    rw [if_pos rfl] at HN HD
    simp only [HPP] at HP HS H0 HN HD
    have hp8 := HP.out n (by omega)
    have CFR := Lib.hid (fun W => fractionOf_any (P n) b W (by omega) (by omega))
    rw [← HN.out, ← HD.out] at CFR
    have hb0 := hok.2.2
    clear HOK hok hP HPP HN HD hp8 e0 e1 f0 f1
    go_wp2
    go_loop [7, 23] (fun s i => ∃ k : Nat, k ≤ n ∧ i = .int .i64 k ∧ s = .int .i64 (P k)) (fun _ i => n - (intOf i).toNat)
    case atStart => exact ⟨0, Nat.zero_le _, rfl, by rw [H0.out]⟩
    case round =>
      obtain ⟨k, hk, rfl, rfl⟩ := hrel
      by_cases hlt : k < n
      · obtain ⟨ad, rfl, _, hca⟩ := X3.out.2 (by omega)
        have hck := hca k hlt
        have hcb := HC.out k
        have hs := HS.out k
        have hp := HP.out k (by omega)
        have hp1 := HP.out (k + 1) (by omega)
        clear hca
        obtain ⟨x, hx⟩ : ∃ x, cs.getD k 0 = x := ⟨_, rfl⟩
        rw [hx] at hck hcb hs
        have CZ := Lib.hid (fun W => rsize_any x W (by omega))
        have hu := absF_bd x 1000 hcb
        obtain ⟨u, hu2⟩ : ∃ u, absF x = u := ⟨_, rfl⟩
        rw [hu2] at CZ hu hs
        clear hx hu2
        have hkI : (k : Int) < (n : Int) := by omega
        obtain ⟨p, hpp⟩ : ∃ p, P k = p := ⟨_, rfl⟩
        rw [hpp] at hs hp
        have w1 : IntKind.i64.wrap (u * a) = u * a := IntWalk.i64_in _ (by omega)
        have w2 : IntKind.i64.wrap (p + u * a) = p + u * a := IntWalk.i64_in _ (by omega)
        rw [hpp]
        have HSS := Lib.hid hs
        clear hs hpp
        go_wp2_with fail
        refine (CZ.out _).mono ?_
        rintro e w' ⟨rfl, rfl⟩
        go_wp2
        go_round
        case rel => exact ⟨k + 1, by omega, by go_num, by rw [HSS.out]⟩
        case measure => simp [intOf]; omega
      · obtain rfl : n = k := by omega
        have hkI : ¬ (n : Int) < (n : Int) := by omega
        clear hlt
        go_wp2_with fail
        refine (CFR.out _).mono ?_
        rintro e wz ⟨rfl, hbz⟩
        have RZ := R3.out.later hbz
        have BZ := B3.out.trans (hbz.mono B3.out.size)
        obtain ⟨e0, e1, f0, f1⟩ := cell2 RZ
        clear hbz
        go_wp2
        refine bodyPost_ret (v := .tuple #[.agg #[.int .i64 x, .int .i64 y], .int .i64 0]) (by simp [results, Try.results33, go_sem, e0, e1, f0, f1]) rfl ⟨rfl, ?_⟩
        have := BZ.size
        go_grown
  · have d2 : (E != 0) = true := by rw [bne_iff_ne]; exact h0
    have hx := HN.out
    have hy := HD.out
    rw [if_neg h0] at hx hy
    subst hx hy
    clear HOK HN HD h0
    go_wp2
    refine bodyPost_ret (v := .tuple #[.agg #[.int .i64 0, .int .i64 0], .int .i64 E]) (by simp [results, Try.results33, go_sem, e0, e1, f0, f1]) rfl ⟨rfl, ?_⟩
    have := B3.out
    have := this.size
    go_grown
set_option maxRecDepth 100000 in
set_option maxHeartbeats 4000000 in
theorem refMaximumOutput_any (A : Option Addr) (n c : Nat) (b : Int) (cs : List Int) (a : Int) (w : World) (hr : RdI w A n cs) (hok : (1 ≤ cs.length ∧ cs.length ≤ 8) ∧ (∀ c ∈ cs, -1000 ≤ c ∧ c ≤ 1000) ∧ 1 ≤ b ∧ b ≤ 1000) (ha : 0 ≤ a ∧ a ≤ 32767) :
    Calls Try.prog 36 #[.agg #[.slice A n c, .int .i64 b], .int .i64 a] w fun e w' => e = .returned (.agg #[.int .i64 (frN (absS cs n * a) b), .int .i64 (frD (absS cs n * a) b)]) ∧ Below w.heap.size w w' := by
  have HCN : Hid (cs.length = n) := hr.1
  have hn8 : n ≤ 8 := by have := HCN.out; omega
  have HC : Hid (∀ k, -1000 ≤ cs.getD k 0 ∧ cs.getD k 0 ≤ 1000) := fun k => getD_bd (by omega) hok.2.1 k
  have HP : Hid (∀ k : Nat, 0 ≤ absS cs k ∧ absS cs k ≤ 1000 * (k : Int)) := absS_bd hok.2.1
  have HS : Hid (∀ k, absS cs (k + 1) = absS cs k + absF (cs.getD k 0)) := fun k => rfl
  have H0 : Hid (absS cs 0 = 0) := rfl
  have hpa := absP_bd hok.2.1 ha n hn8
  obtain ⟨P, hP⟩ : ∃ P, absS cs = P := ⟨_, rfl⟩
  rw [hP] at HP HS H0 hpa ⊢
  have CL := Lib.hid (fun W => bLowest_any (P n * a) b W (by omega) (by omega))
  have hb0 := hok.2.2
  obtain ⟨x, hx⟩ : ∃ z, frN (P n * a) b = z := ⟨_, rfl⟩
  obtain ⟨y, hy⟩ : ∃ z, frD (P n * a) b = z := ⟨_, rfl⟩
  rw [hx, hy] at CL ⊢
  have wm : IntKind.i64.wrap (P n * a) = P n * a := IntWalk.i64_in _ (by omega)
  have X0 := Lib.hid (hr.below (below2 w (.cells #[.slice A n c, .int .i64 b] 45) (.cells #[.int .i64 0, .int .i64 0] 28)))
  have K0 := Lib.hid ((Bk.new w 45 #[.slice A n c, .int .i64 b]).alloc (.cells #[.int .i64 0, .int .i64 0] 28))
  have R0 : Hid (Bk ((w.alloc (.cells #[.slice A n c, .int .i64 b] 45)).alloc (.cells #[.int .i64 0, .int .i64 0] 28)) (w.heap.size + 1) 28 #[.int .i64 0, .int .i64 0]) := by
    have := Bk.new (w.alloc (.cells #[.slice A n c, .int .i64 b] 45)) 28 #[.int .i64 0, .int .i64 0]
    refine Lib.hid ?_
    simpa using this
  have B0 := Lib.hid (below2 w (.cells #[.slice A n c, .int .i64 b] 45) (.cells #[.int .i64 0, .int .i64 0] 28))
  clear hr hok hP hx hy
  go_enter Try.func36, Try.ntmps36
  go_wp2
  obtain ⟨W1, hW1⟩ : ∃ W, (w.alloc (.cells #[.slice A n c, .int .i64 b] 45)).alloc (.cells #[.int .i64 0, .int .i64 0] 28) = W := ⟨_, rfl⟩
  rw [hW1] at X0 K0 R0 B0 ⊢
  clear hW1
  obtain ⟨d0, d1⟩ := bkf2 K0.out
  go_loop [5, 6] (fun s i => ∃ k : Nat, k ≤ n ∧ i = .int .i64 k ∧ s = .int .i64 (P k)) (fun _ i => n - (intOf i).toNat)
  case atStart => exact ⟨0, Nat.zero_le _, rfl, by rw [H0.out]⟩
  case round =>
    obtain ⟨k, hk, rfl, rfl⟩ := hrel
    by_cases hlt : k < n
    · obtain ⟨ad, rfl, _, hca⟩ := X0.out.2 (by omega)
      have hck := hca k hlt
      have hcb := HC.out k
      have hs := HS.out k
      have hp := HP.out k
      clear hca
      obtain ⟨x, hx⟩ : ∃ x, cs.getD k 0 = x := ⟨_, rfl⟩
      rw [hx] at hck hcb hs
      have CZ := Lib.hid (fun W => bsize_any x W (by omega))
      have hu := absF_bd x 1000 hcb
      obtain ⟨u, hu2⟩ : ∃ u, absF x = u := ⟨_, rfl⟩
      rw [hu2] at CZ hu hs
      clear hx hu2
      have hkI : (k : Int) < (n : Int) := by omega
      obtain ⟨p, hpp⟩ : ∃ p, P k = p := ⟨_, rfl⟩
      rw [hpp] at hs hp
      have w2 : IntKind.i64.wrap (p + u) = p + u := IntWalk.i64_in _ (by omega)
      rw [hpp]
      have HSS := Lib.hid hs
      clear hs hpp
      go_wp2_with fail
      refine (CZ.out _).mono ?_
      rintro e w' ⟨rfl, rfl⟩
      go_wp2
      go_round
      case rel => exact ⟨k + 1, by omega, by go_num, by rw [HSS.out]⟩
      case measure => simp [intOf]; omega
    · obtain rfl : n = k := by omega
      have hkI : ¬ (n : Int) < (n : Int) := by omega
      clear hlt
      go_wp2_with fail
      refine (CL.out _).mono ?_
      rintro e wz ⟨rfl, hbz⟩
      have RZ := R0.out.later hbz
      have BZ := B0.out.trans (hbz.mono B0.out.size)
      obtain ⟨e0, e1, f0, f1⟩ := cell2 RZ
      clear hbz
      go_wp2
      refine bodyPost_ret (v := .agg #[.int .i64 x, .int .i64 y]) (by simp [results, Try.results36, go_sem, e0, e1, f0, f1]) rfl ⟨rfl, ?_⟩
      have := BZ.size
      go_grown

end Go.Proofs.Ytghpofhpkbgckaa


namespace Go.Proofs.Ytghpofhpkbgckaa
open Go.RowKit

/-! ### the worst input -/
def wsP (cs : List Int) (a : Int) (k : Nat) : List Int := List.replicate (cs.length - k) 0 ++ ((cs.take k).map fun c => sgF c * a).reverse
theorem wsP_len (cs : List Int) (a : Int) (k : Nat) (hk : k ≤ cs.length) : (wsP cs a k).length = cs.length := by
  simp [wsP]; omega
theorem wsP_zero (cs : List Int) (a : Int) : wsP cs a 0 = List.replicate cs.length 0 := by simp [wsP]
theorem wsP_all (cs : List Int) (a : Int) : wsP cs a cs.length = wrst cs a := by simp [wsP, wrst]
theorem wsP_set (cs : List Int) (a : Int) (k : Nat) (hk : k < cs.length) : (wsP cs a k).set (cs.length - 1 - k) (sgF (cs.getD k 0) * a) = wsP cs a (k + 1) := by
  unfold wsP
  have e1 : cs.length - k = (cs.length - 1 - k) + 1 := by omega
  have e2 : cs.length - (k + 1) = cs.length - 1 - k := by omega
  have e3 : cs.take (k + 1) = cs.take k ++ [cs.getD k 0] := by
    rw [List.take_succ_eq_append_getElem hk]
    simp [List.getD_eq_getElem?_getD, List.getElem?_eq_getElem hk]
  rw [e1, e2, e3, List.replicate_succ', List.append_assoc, List.set_append_right _ _ (by simp)]
  simp
theorem sg_bd (c a : Int) (ha : 0 ≤ a ∧ a ≤ 32767) : -32767 ≤ sgF c * a ∧ sgF c * a ≤ 32767 := by
  unfold sgF
  split
  · omega
  · split <;> omega
theorem isNaN_any (x : Int) (w : World) : Calls Try.prog 98 #[.int .i64 x] w fun e w' => e = .returned (.bool false) ∧ w = w' := by
  have h : (x != x) = false := by simp
  go_enter Try.func98, Try.ntmps98
  go_wp2
  go_ret
  exact ⟨by simp, rfl⟩
theorem compare0_any (x : Int) (w : World) : Calls Try.prog 79 #[.int .i64 x, .int .i64 0] w fun e w' => e = .returned (.int .i64 (sgF x)) ∧ w = w' := by
  have C := Lib.hid (fun (x : Int) w => isNaN_any x w)
  have HS : Hid (sgF x = if 0 < x then 1 else if x < 0 then -1 else 0) := rfl
  rcases (by omega : x < 0 ∨ x = 0 ∨ 0 < x) with h | h | h
  · have h2 : ¬ 0 < x := by omega
    go_enter Try.func79, Try.ntmps79
    go_wp2_with (go_at_call 98; refine (C.out _ _).mono ?_; rintro e w' ⟨rfl, rfl⟩)
    go_ret
    exact ⟨by rw [HS.out, if_neg (by omega), if_pos h]; rfl, rfl⟩
  · subst h
    go_enter Try.func79, Try.ntmps79
    go_wp2_with (go_at_call 98; refine (C.out _ _).mono ?_; rintro e w' ⟨rfl, rfl⟩)
    go_ret
    exact ⟨by rw [HS.out]; rfl, rfl⟩
  · have h2 : ¬ x < 0 := by omega
    go_enter Try.func79, Try.ntmps79
    go_wp2_with (go_at_call 98; refine (C.out _ _).mono ?_; rintro e w' ⟨rfl, rfl⟩)
    go_ret
    exact ⟨by rw [HS.out, if_pos h]; rfl, rfl⟩
def wiL (cs : List Int) (b a : Int) : List Int := if moE cs b a = 0 then wrst cs a else []
set_option maxRecDepth 100000 in
set_option maxHeartbeats 4000000 in
theorem WorstInput_any (A : Option Addr) (n c : Nat) (b : Int) (cs : List Int) (a : Int) (w : World) (hr : RdI w A n cs) (hn : n ≤ 1000000) :
    Calls Try.prog 34 #[.agg #[.slice A n c, .int .i64 b], .int .i64 a] w (OwnRes w (moE cs b a) (wiL cs b a)) := by
  have CQ : Hid (∀ W, RdI W A n cs → Calls Try.prog 31 #[.agg #[.slice A n c, .int .i64 b]] W fun e w' => e = .returned (.int .i64 (fltE cs b)) ∧ Below W.heap.size W w') := fun W h => CheckFilter_any A n c cs b W h (by omega)
  have CA := Lib.hid (fun W => checkAmplitude_any a W)
  have HCN : Hid (cs.length = n) := hr.1
  have HE : Hid (firstNZ [fltE cs b, ampE a] = moE cs b a) := rfl
  have HOK : Hid (moE cs b a = 0 → _) := fun h => moE_zero h
  have HL : Hid (wiL cs b a = if moE cs b a = 0 then wrst cs a else []) := rfl
  obtain ⟨L, hL⟩ : ∃ z, wiL cs b a = z := ⟨_, rfl⟩
  rw [hL] at HL ⊢
  obtain ⟨E, hE⟩ : ∃ E, moE cs b a = E := ⟨_, rfl⟩
  rw [hE] at HE HOK HL ⊢
  obtain ⟨E1, hE1⟩ : ∃ E, fltE cs b = E := ⟨_, rfl⟩
  obtain ⟨E2, hE2⟩ : ∃ E, ampE a = E := ⟨_, rfl⟩
  rw [hE1] at HE CQ
  rw [hE2] at HE CA
  clear hL hE hE1 hE2
  have X0 := Lib.hid (hr.below (below1 w (.cells #[.slice A n c, .int .i64 b] 45)))
  have K0 := Lib.hid (Bk.new w 45 #[.slice A n c, .int .i64 b])
  have B0 := Lib.hid (below1 w (.cells #[.slice A n c, .int .i64 b] 45))
  clear hr
  go_enter Try.func34, Try.ntmps34
  obtain ⟨d0, d1⟩ := bkf2 K0.out
  go_wp2_with fail
  refine (CQ.out _ X0.out).mono ?_
  rintro e w1 ⟨rfl, hb⟩
  have X1 := Lib.hid (X0.out.below hb)
  have K1 := Lib.hid (K0.out.later hb)
  have B1 := Lib.hid (B0.out.trans (hb.mono B0.out.size))
  clear X0 K0 B0 hb
  clear d0 d1
  go_wp2_with fail
  refine (CA.out _).mono ?_
  rintro e w2 ⟨rfl, hb⟩
  have X2 := Lib.hid (X1.out.below hb)
  have K2 := Lib.hid (K1.out.later hb)
  have B2 := Lib.hid (B1.out.trans (hb.mono B1.out.size))
  clear X1 K1 B1 hb
  have X3 := Lib.hid (X2.out.below (below1 w2 (.cells #[.int .i64 E1, .int .i64 E2] 29)))
  have K3 := Lib.hid (K2.out.alloc (.cells #[.int .i64 E1, .int .i64 E2] 29))
  have B3 := Lib.hid (B2.out.alloc B2.out.size (.cells #[.int .i64 E1, .int .i64 E2] 29))
  clear X2 K2 B2
  go_wp2_with fail
  refine (firstError2 (E1 := E1) (E2 := E2) (F := E) HE.out _ _ ?_ ?_).mono ?_
  · simp [go_sem]
  · simp [go_sem]
  rintro e w' ⟨rfl, rfl⟩
  obtain ⟨w3, hw3⟩ : ∃ W, w2.alloc (.cells #[.int .i64 E1, .int .i64 E2] 29) = W := ⟨_, rfl⟩
  rw [hw3] at X3 K3 B3 ⊢
  clear hw3
  clear HE CQ CA
  obtain ⟨d0, d1⟩ := bkf2 K3.out
  by_cases h0 : E = 0
  · subst h0
    obtain ⟨hok, ha⟩ := HOK.out rfl
    have hn8 : n ≤ 8 := by have := HCN.out; omega
    have hn0 : 0 < n := by have := HCN.out; omega
    have HSB : Hid (∀ c, -32767 ≤ sgF c * a ∧ sgF c * a ≤ 32767) := fun c => sg_bd c a ha
    have HSET : Hid (∀ k, k < n → (wsP cs a k).set (n - 1 - k) (sgF (cs.getD k 0) * a) = wsP cs a (k + 1)) := fun k hk => by have h := HCN.out; subst h; exact wsP_set cs a k hk
    have HLEN : Hid (∀ k, k ≤ n → (wsP cs a k).length = n) := fun k hk => (wsP_len cs a k (by have := HCN.out; omega)).trans HCN.out
    have HZ : Hid (wsP cs a 0 = List.replicate n 0) := by show _ = _; rw [wsP_zero, HCN.out]
    have hL := HL.out
    rw [if_pos rfl, ← wsP_all, HCN.out] at hL
    have HL2 := Lib.hid hL
    obtain ⟨P, hP⟩ : ∃ P : Nat → List Int, wsP cs a = P := ⟨_, rfl⟩
    rw [hP] at HSET HLEN HZ HL2
    have hmi := make_ints n (by omega)
    obtain ⟨q, hq⟩ : ∃ q, n = q + 1 := ⟨n - 1, by have := HCN.out; omega⟩
    have v1 : IntKind.i64.wrap ((n : Int) - 1) = (q : Int) := by rw [show (n : Int) - 1 = (q : Int) by omega]; exact IntWalk.i64_in _ (by omega)
    have v2 : IntKind.i64.wrap ((q : Int) + 1) = (n : Int) := by rw [show (q : Int) + 1 = (n : Int) by omega]; exact IntWalk.i64_in _ (by omega)
    have HQ := Lib.hid hq
    obtain ⟨d0', d1'⟩ := bkf2 (K3.out.alloc (.cells (iArr (List.replicate n 0)) 3))
    clear HOK hok hP HL hL hq
    go_wp2
    obtain ⟨g, hg⟩ : ∃ g, w3.heap.size = g := ⟨_, rfl⟩
    obtain ⟨W4, hW4⟩ : ∃ W4, w3.alloc (.cells (iArr (List.replicate n 0)) 3) = W4 := ⟨_, rfl⟩
    have KG : Hid (Bk W4 g 3 (iArr (P 0))) := by show Bk _ _ _ _; rw [HZ.out, ← hW4, ← hg]; exact Bk.new _ _ _
    have KW : Hid (Bk W4 w.heap.size 45 #[.slice A n c, .int .i64 b]) := by show Bk _ _ _ _; rw [← hW4]; exact K3.out.alloc _
    have XW : Hid (RdI W4 A n cs) := by show RdI _ _ _ _; rw [← hW4]; exact X3.out.below (below1 _ _)
    have BW : Hid (Below w.heap.size w W4) := by show Below _ _ _; rw [← hW4]; exact B3.out.alloc B3.out.size _
    have hgw : w.heap.size ≤ g := by rw [← hg]; exact B3.out.size
    have hgA : Hid (∀ ad, A = some ad → ad.block ≠ g) := fun ad hA => by
      obtain ⟨a2, h2, h3, _⟩ := X3.out.2 (by omega)
      rw [hA] at h2
      cases h2
      omega
    clear d0 d1 d0' d1'
    try rw [hW4]
    try rw [hg]
    clear hW4 hg hmi X3 K3 B3 v1 v2
    go_loopw [30] (fun i wr => ∃ k : Nat, k ≤ n ∧ i = .int .i64 k ∧ Hid (Bk wr g 3 (iArr (P k))) ∧ Hid (RdI wr A n cs) ∧ Hid (Below w.heap.size w wr)) (fun i _ => n - (intOf i).toNat)
    case atStart => exact ⟨0, Nat.zero_le _, rfl, KG, XW, BW⟩
    case round =>
      obtain ⟨k, hk, rfl, HK, HX, HB⟩ := hrel
      by_cases hlt : k < n
      · obtain ⟨ad, rfl, hadb, hca⟩ := HX.out.2 (by omega)
        have hck := hca k hlt
        clear hca
        have hs := HSET.out k hlt
        have hsb := HSB.out (cs.getD k 0)
        obtain ⟨x, hx⟩ : ∃ x, cs.getD k 0 = x := ⟨_, rfl⟩
        rw [hx] at hck hs hsb
        have CC := Lib.hid (fun W => compare0_any x W)
        obtain ⟨s, hse⟩ : ∃ s, sgF x = s := ⟨_, rfl⟩
        rw [hse] at CC hs hsb
        clear hx hse
        have w1 : IntKind.i64.wrap (s * a) = s * a := IntWalk.i64_in _ (by omega)
        obtain ⟨j, hj⟩ : ∃ j, n - 1 - k = j := ⟨_, rfl⟩
        rw [hj] at hs
        have hq := HQ.out
        have v3 : IntKind.i64.wrap ((q : Int) - (k : Int)) = (j : Int) := by rw [show (q : Int) - (k : Int) = (j : Int) by omega]; exact IntWalk.i64_in _ (by omega)
        have hjn : (j : Int) < (n : Int) := by omega
        clear hq
        have hjn2 : j < n := by omega
        have hkI : (k : Int) < (n : Int) := by omega
        have hg1 : wr.cell? ⟨g, j, none⟩ = some (.int .i64 ((P k).getD j 0)) := by rw [HK.out.cell]; exact iArr_at _ _ (by rw [HLEN.out k hk]; omega)
        have hf1 : wr.frozen? ⟨g, j, none⟩ = false := HK.out.frozen j
        obtain ⟨o, ho⟩ : ∃ o, (P k).getD j 0 = o := ⟨_, rfl⟩
        rw [ho] at hg1
        have HKN : Hid (Bk (wr.setCell ⟨g, j, none⟩ (.int .i64 (s * a))) g 3 (iArr (P (k + 1)))) := by
          refine Lib.hid ?_
          have := HK.out.set_ j (.int .i64 (s * a))
          rw [iArr_set, hs] at this
          exact this
        have HXN : Hid (RdI (wr.setCell ⟨g, j, none⟩ (.int .i64 (s * a))) (some ad) n cs) := by
          have hne := hgA.out ad rfl
          refine ⟨HX.out.1, fun hn0 => ?_⟩
          obtain ⟨ad', hA, h2, h3⟩ := HX.out.2 hn0
          refine ⟨ad', hA, by simpa using h2, fun i hi => ?_⟩
          cases hA
          rw [World.cell?_setCell_far _ _ _ _ (fun e => hne (by rw [addBlock] at e; exact e.symm))]
          exact h3 i hi
        have HBN : Hid (Below w.heap.size w (wr.setCell ⟨g, j, none⟩ (.int .i64 (s * a)))) := HB.out.setCell (p := ⟨g, j, none⟩) hgw _
        clear ho hs hj hadb
        go_wp2_with fail
        refine (CC.out _).mono ?_
        rintro e w' ⟨rfl, rfl⟩
        go_wp2
        go_roundw
        case rel => exact ⟨k + 1, by omega, by go_num, HKN, HXN, HBN⟩
        case measure => simp [intOf]; omega
      · obtain rfl : n = k := by omega
        have hkI : ¬ (n : Int) < (n : Int) := by omega
        clear hlt
        go_wp2
        go_ret2
        rw [HL2.out]
        have hl := HLEN.out n hk
        exact ⟨⟨_, rfl, by rw [hl]; exact own_of_bk n HK.out hl hgw (by omega)⟩, HB.out⟩
  · have d2 : (E != 0) = true := by rw [bne_iff_ne]; exact h0
    have hL := HL.out
    rw [if_neg h0] at hL
    subst hL
    clear HOK HL h0
    go_wp2
    go_ret2
    exact OwnRes.none_ B3.out
set_option maxRecDepth 100000 in
set_option maxHeartbeats 4000000 in
theorem refWorstInput_any (A : Option Addr) (n c : Nat) (b : Int) (cs : List Int) (a : Int) (w : World) (hr : RdI w A n cs) (hn : n ≤ 8) (ha : 0 ≤ a ∧ a ≤ 32767) :
    Calls Try.prog 37 #[.agg #[.slice A n c, .int .i64 b], .int .i64 a] w (OwnS w (wrst cs a)) := by
  have HCN : Hid (cs.length = n) := hr.1
  have X0 := Lib.hid (hr.below (below1 w (.cells #[.slice A n c, .int .i64 b] 45)))
  have K0 := Lib.hid (Bk.new w 45 #[.slice A n c, .int .i64 b])
  have B0 := Lib.hid (below1 w (.cells #[.slice A n c, .int .i64 b] 45))
  have HLL : Hid ((wrst cs a).length = n) := (wrst_len cs a).trans hr.1
  have HST : Hid (∀ r, r < n → (wrst cs a).take (n - r) = (wrst cs a).take (n - (r + 1)) ++ [sgF (cs.getD r 0) * a]) := fun r h => by
    have hl := HLL.out
    have hc := HCN.out
    have h1 := take_snoc (l := wrst cs a) (k := n - (r + 1)) (by omega)
    rw [show n - (r + 1) + 1 = n - r by omega] at h1
    have h2 := wrst_at cs a r (by omega)
    rw [show cs.length - 1 - r = n - (r + 1) by omega] at h2
    rw [h1, h2]
  have HSG : Hid (∀ c, sgF c * a = if 0 < c then a else if c < 0 then -a else 0) := fun c => by
    unfold sgF
    split
    · simp
    · split <;> simp
  obtain ⟨L, hL⟩ : ∃ L, wrst cs a = L := ⟨_, rfl⟩
  rw [hL] at HLL HST ⊢
  clear hL hr
  obtain ⟨i0, hi0, hza, hzb, hzc⟩ := info_parts intInfo'
  have wn : IntKind.i64.wrap ((n : Int) - 1) = (n : Int) - 1 := IntWalk.i64_in _ (by omega)
  have wa : IntKind.i64.wrap (-a) = -a := IntWalk.i64_in _ (by omega)
  go_enter Try.func37, Try.ntmps37
  go_wp2
  obtain ⟨W1, hW1⟩ : ∃ W, w.alloc (.cells #[.slice A n c, .int .i64 b] 45) = W := ⟨_, rfl⟩
  rw [hW1] at X0 K0 B0 ⊢
  clear hW1
  go_loopw [5, 6] (fun p i wr => ∃ (r : Nat) (iv : Int), r ≤ n ∧ iv = (r : Int) - 1 ∧ i = .int .i64 iv ∧ Hid (wr.ownsRow W1.heap.size 3 1 p (n - r) ((L.take (n - r)).map (Value.int .i64))) ∧ Hid (Below W1.heap.size W1 wr)) (fun _ i _ => (intOf i + 1).toNat)
  case atStart => exact ⟨n, (n : Int) - 1, Nat.le_refl _, rfl, rfl, by rw [Nat.sub_self]; exact Lib.hid (World.ownsRow_nil _ _ _ _), Lib.hid (Below.refl _ _)⟩
  case round =>
    obtain ⟨r, iv, hrn, hiv, rfl, HI, HB⟩ := hrel
    obtain ⟨A2, cap2, hp, _, _⟩ := rd_of_own HI.out
    subst hp
    obtain ⟨d0, d1⟩ := bkf2 (K0.out.later HB.out)
    by_cases hlt : 0 < r
    · obtain ⟨k, rfl⟩ : ∃ k, r = k + 1 := ⟨r - 1, by omega⟩
      obtain rfl : iv = (k : Int) := by omega
      have hxw := X0.out.below HB.out
      obtain ⟨ad, rfl, _, hca⟩ := hxw.2 (by omega)
      have hck := hca k (by omega)
      clear hca hxw
      have hs := HST.out k (by omega)
      have hg := HSG.out (cs.getD k 0)
      obtain ⟨x, hx⟩ : ∃ x, cs.getD k 0 = x := ⟨_, rfl⟩
      rw [hx] at hck hs hg
      clear hx
      obtain ⟨v, hv⟩ : ∃ v, sgF x * a = v := ⟨_, rfl⟩
      rw [hv] at hs hg
      have HS := Lib.hid hs
      have HG := Lib.hid hg
      clear hs hg hv hiv
      have hkn : (k : Int) < (n : Int) := by omega
      have hkn2 : k < n := by omega
      have hk0 : (0 : Int) ≤ (k : Int) := by omega
      have wk : IntKind.i64.wrap ((k : Int) - 1) = (k : Int) - 1 := IntWalk.i64_in _ (by omega)
      rcases (by omega : 0 < x ∨ x = 0 ∨ x < 0) with hx | hx | hx
      · have hx2 : ¬ x < 0 := by omega
        have hv := HG.out
        rw [if_pos hx] at hv
        clear HG
        go_wp2_with (at_builtin; refine wpList_append_own _ rfl (.tmp 31) (.tmp 33) 22 rfl W1.heap.size 3 i0 _ 1 8 Try.underlying22 hi0 hza hzb hzc rfl (by decide) _ _ _ rfl (HI.out.alloc _) ⟨wr.heap.size, 0, none⟩ 1 1 [.int .i64 (a)] rfl rfl (cell_one_new _ _ _) (by simp [Value.oneCell']) (by unfold maxLen; omega) (by omega) (by have := HB.out.size; simp; omega) ?_)
        intro v' w8 hown' hgrow _
        have HF : Hid (w8.ownsRow W1.heap.size 3 1 v' (n - k) ((L.take (n - k)).map (Value.int .i64))) := by
          refine Lib.hid ?_
          rw [HS.out, List.map_append, List.map_take, hv]
          have e : n - (k + 1) + 1 = n - k := by omega
          rw [e] at hown'
          exact hown'
        have HG2 : Hid (Below W1.heap.size W1 w8) := (HB.out.alloc HB.out.size _).grown hgrow (by have := HB.out.size; simp; omega) (fun z e => (HI.out.lt z e).1)
        clear hown' hgrow
        go_wp2
        go_roundw
        case rel => exact ⟨k, (k : Int) - 1, by omega, rfl, rfl, HF, HG2⟩
        case measure => first | (simp [intOf]; done) | (simp [intOf]; omega)
      · subst hx
        have hv := HG.out
        rw [if_neg (by omega), if_neg (by omega)] at hv
        clear HG
        go_wp2_with (at_builtin; refine wpList_append_own _ rfl (.tmp 31) (.tmp 33) 22 rfl W1.heap.size 3 i0 _ 1 8 Try.underlying22 hi0 hza hzb hzc rfl (by decide) _ _ _ rfl (HI.out.alloc _) ⟨wr.heap.size, 0, none⟩ 1 1 [.int .i64 (0)] rfl rfl (cell_one_new _ _ _) (by simp [Value.oneCell']) (by unfold maxLen; omega) (by omega) (by have := HB.out.size; simp; omega) ?_)
        intro v' w8 hown' hgrow _
        have HF : Hid (w8.ownsRow W1.heap.size 3 1 v' (n - k) ((L.take (n - k)).map (Value.int .i64))) := by
          refine Lib.hid ?_
          rw [HS.out, List.map_append, List.map_take, hv]
          have e : n - (k + 1) + 1 = n - k := by omega
          rw [e] at hown'
          exact hown'
        have HG2 : Hid (Below W1.heap.size W1 w8) := (HB.out.alloc HB.out.size _).grown hgrow (by have := HB.out.size; simp; omega) (fun z e => (HI.out.lt z e).1)
        clear hown' hgrow
        go_wp2
        go_roundw
        case rel => exact ⟨k, (k : Int) - 1, by omega, rfl, rfl, HF, HG2⟩
        case measure => first | (simp [intOf]; done) | (simp [intOf]; omega)
      · have hx2 : ¬ 0 < x := by omega
        have hv := HG.out
        rw [if_neg hx2, if_pos hx] at hv
        clear HG
        go_wp2_with (at_builtin; refine wpList_append_own _ rfl (.tmp 31) (.tmp 33) 22 rfl W1.heap.size 3 i0 _ 1 8 Try.underlying22 hi0 hza hzb hzc rfl (by decide) _ _ _ rfl (HI.out.alloc _) ⟨wr.heap.size, 0, none⟩ 1 1 [.int .i64 (-a)] rfl rfl (cell_one_new _ _ _) (by simp [Value.oneCell']) (by unfold maxLen; omega) (by omega) (by have := HB.out.size; simp; omega) ?_)
        intro v' w8 hown' hgrow _
        have HF : Hid (w8.ownsRow W1.heap.size 3 1 v' (n - k) ((L.take (n - k)).map (Value.int .i64))) := by
          refine Lib.hid ?_
          rw [HS.out, List.map_append, List.map_take, hv]
          have e : n - (k + 1) + 1 = n - k := by omega
          rw [e] at hown'
          exact hown'
        have HG2 : Hid (Below W1.heap.size W1 w8) := (HB.out.alloc HB.out.size _).grown hgrow (by have := HB.out.size; simp; omega) (fun z e => (HI.out.lt z e).1)
        clear hown' hgrow
        go_wp2
        go_roundw
        case rel => exact ⟨k, (k : Int) - 1, by omega, rfl, rfl, HF, HG2⟩
        case measure => first | (simp [intOf]; done) | (simp [intOf]; omega)
    · obtain rfl : r = 0 := by omega
      obtain rfl : iv = -1 := by omega
      have hfi := HI.out
      rw [Nat.sub_zero, List.take_of_length_le (by have := HLL.out; omega)] at hfi
      have HFI := Lib.hid hfi
      clear hfi hlt hiv HI
      go_wp2
      go_ret
      exact ⟨⟨_, rfl, by rw [HLL.out]; exact ownMono HFI.out B0.out.size⟩, B0.out.trans (HB.out.mono B0.out.size)⟩

end Go.Proofs.Ytghpofhpkbgckaa


namespace Go.Proofs.Ytghpofhpkbgckaa
open Go.RowKit

theorem mo_D {cs : List Int} {b a : Int} (h : ¬ fltE cs b = 0) : moE cs b a = fltE cs b ∧ moN cs b a = 0 ∧ moD cs b a = 0 ∧ wiL cs b a = [] := by
  have e : moE cs b a = fltE cs b := by rw [moE, firstNZ2, if_neg h]
  exact ⟨e, by unfold moN; rw [e, if_neg h], by unfold moD; rw [e, if_neg h], by unfold wiL; rw [e, if_neg h]⟩
theorem mo_A {cs : List Int} {b a : Int} (h : fltE cs b = 0) (ha : ¬ ampE a = 0) : moE cs b a = ampE a ∧ moN cs b a = 0 ∧ moD cs b a = 0 ∧ wiL cs b a = [] := by
  have e : moE cs b a = ampE a := by rw [moE, firstNZ2, if_pos h]
  exact ⟨e, by unfold moN; rw [e, if_neg ha], by unfold moD; rw [e, if_neg ha], by unfold wiL; rw [e, if_neg ha]⟩
theorem mo_ok {cs : List Int} {b a : Int} (h : fltE cs b = 0) (ha : ampE a = 0) : moE cs b a = 0 ∧ moN cs b a = frN (absS cs cs.length * a) b ∧ moD cs b a = frD (absS cs cs.length * a) b ∧ wiL cs b a = wrst cs a := by
  have e : moE cs b a = 0 := by rw [moE, firstNZ2, if_pos h]; exact ha
  exact ⟨e, by unfold moN; rw [e, if_pos rfl], by unfold moD; rw [e, if_pos rfl], by unfold wiL; rw [e, if_pos rfl]⟩
theorem mo_to {cs L : List Int} {b a E x y : Int} {n k : Nat} (h : moE cs b a = E ∧ moN cs b a = x ∧ moD cs b a = y ∧ wiL cs b a = L) (hk : L.length = k) (hn : n ≤ 1000000) :
    (∀ A c W, RdI W A n cs → Calls Try.prog 33 #[.agg #[.slice A n c, .int .i64 b], .int .i64 a] W fun e w' => e = .returned (.tuple #[.agg #[.int .i64 x, .int .i64 y], .int .i64 E]) ∧ Below W.heap.size W w')
    ∧ (∀ A c W, RdI W A n cs → Calls Try.prog 34 #[.agg #[.slice A n c, .int .i64 b], .int .i64 a] W (RdRes W E k L)) := by
  obtain ⟨h1, h2, h3, h4⟩ := h
  refine ⟨fun A c W hr => ?_, fun A c W hr => ?_⟩
  · have := MaximumOutput_any A n c b cs a W hr hn
    rwa [h1, h2, h3] at this
  · refine (WorstInput_any A n c b cs a W hr hn).mono fun e w' ho => ?_
    rw [h1, h4] at ho
    exact ho.rd hk
set_option maxRecDepth 100000 in
set_option maxHeartbeats 4000000 in
theorem mxw_D (A : Option Addr) (n c : Nat) (b : Int) (cs : List Int) (a : Int) (w : World) (D : Int) (hD : ¬ D = 0) (hr : RdI w A n cs) (hn : n ≤ 10) (hA : A = none → n = 0 ∧ c = 0)
    (CMo : ∀ A' c' W, RdI W A' n cs → Calls Try.prog 33 #[.agg #[.slice A' n c', .int .i64 b], .int .i64 a] W fun e w' => e = .returned (.tuple #[.agg #[.int .i64 0, .int .i64 0], .int .i64 D]) ∧ Below W.heap.size W w')
    (CWo : ∀ A' c' W, RdI W A' n cs → Calls Try.prog 34 #[.agg #[.slice A' n c', .int .i64 b], .int .i64 a] W (RdRes W (D) 0 []))
    (CFe : ∀ W, RdI W A n cs → Calls Try.prog 30 #[.agg #[.slice A n c, .int .i64 b]] W fun e w' => e = .returned (.int .i64 D) ∧ Below W.heap.size W w')
    : Calls Try.prog 5 #[.agg #[.slice A n c, .int .i64 b], .int .i64 a] w fun e w' => e = .returned (.bool true) ∧ Below w.heap.size w w' := by
  have CCF : Hid (∀ W, RdI W A n cs → Calls Try.prog 29 #[.agg #[.slice A n c, .int .i64 b]] W (CpF W n b cs)) := fun W h => copyFilter_any A n c b cs W hA h (by omega)
  have CTp := Lib.hid (fun W => taps_any A n c b W)
  rw [decide_eq_true hn] at CTp
  have CMo := Lib.hid CMo
  have CWo := Lib.hid CWo
  have CFe := Lib.hid CFe
  have dD0 := neF hD
  have dD1 := neT hD
  clear hD
  have X0 := Lib.hid (hr.below (below1 w (.cells #[.slice A n c, .int .i64 b] 45)))
  have K0 := Lib.hid (Bk.new w 45 #[.slice A n c, .int .i64 b])
  have B0 := Lib.hid (below1 w (.cells #[.slice A n c, .int .i64 b] 45))
  clear hr hA
  go_enter Try.func5, Try.ntmps5
  go_wp2_with fail
  refine (awake_any _).mono ?_
  rintro e w1 ⟨rfl, hb⟩
  have X1 := Lib.hid (X0.out.below hb)
  have K1 := Lib.hid (K0.out.later hb)
  have B1 := Lib.hid (B0.out.trans (hb.mono B0.out.size))
  clear X0 K0 B0 hb
  obtain ⟨d0, d1⟩ := bkf2 K1.out
  go_wp2_with fail
  refine (CTp.out _).mono ?_
  rintro e w2 ⟨rfl, hb⟩
  have X2 := Lib.hid (X1.out.below hb)
  have K2 := Lib.hid (K1.out.later hb)
  have B2 := Lib.hid (B1.out.trans (hb.mono B1.out.size))
  clear X1 K1 B1 hb
  clear d0 d1
  obtain ⟨d0, d1⟩ := bkf2 K2.out
  go_wp2_with fail
  refine (CCF.out _ X2.out).mono ?_
  rintro e w3 ⟨⟨AFa, cFa, rfl, hrFa, hcFa, hNFa⟩, hb⟩
  have X3 := Lib.hid (X2.out.below hb)
  have K3 := Lib.hid (K2.out.later hb)
  have B3 := Lib.hid (B2.out.trans (hb.mono B2.out.size))
  clear X2 K2 B2 hb
  have Fa3 := Lib.hid hrFa
  have NFa := Lib.hid hNFa
  clear hrFa hcFa hNFa
  clear d0 d1
  go_wp2_with fail
  refine (CMo.out _ _ _ Fa3.out).mono ?_
  rintro e w4 ⟨rfl, hb⟩
  have X4 := Lib.hid (X3.out.below hb)
  have K4 := Lib.hid (K3.out.later hb)
  have B4 := Lib.hid (B3.out.trans (hb.mono B3.out.size))
  have Fa4 := Lib.hid (Fa3.out.below hb)
  clear X3 K3 B3 Fa3 hb
  have X5 := Lib.hid (X4.out.below (below1 w4 (.cells #[.int .i64 0, .int .i64 0] 28)))
  have K5 := Lib.hid (K4.out.alloc (.cells #[.int .i64 0, .int .i64 0] 28))
  have B5 := Lib.hid (B4.out.alloc B4.out.size (.cells #[.int .i64 0, .int .i64 0] 28))
  have Fa5 := Lib.hid (Fa4.out.below (below1 w4 (.cells #[.int .i64 0, .int .i64 0] 28)))
  clear X4 K4 B4 Fa4
  have M5 := Lib.hid (Bk.new w4 28 #[.int .i64 0, .int .i64 0])
  obtain ⟨d0, d1⟩ := bkf2 K5.out
  go_wp2_with fail
  refine (CCF.out _ X5.out).mono ?_
  rintro e w6 ⟨⟨AFb, cFb, rfl, hrFb, hcFb, hNFb⟩, hb⟩
  have X6 := Lib.hid (X5.out.below hb)
  have K6 := Lib.hid (K5.out.later hb)
  have B6 := Lib.hid (B5.out.trans (hb.mono B5.out.size))
  have Fa6 := Lib.hid (Fa5.out.below hb)
  have M6 := Lib.hid (M5.out.later hb)
  clear X5 K5 B5 Fa5 M5 hb
  have Fb6 := Lib.hid hrFb
  have NFb := Lib.hid hNFb
  clear hrFb hcFb hNFb
  clear d0 d1
  go_wp2_with fail
  refine (CWo.out _ _ _ Fb6.out).mono ?_
  rintro e w7 ⟨⟨AYa, cYa, rfl, hrYa⟩, hb⟩
  have X7 := Lib.hid (X6.out.below hb)
  have K7 := Lib.hid (K6.out.later hb)
  have B7 := Lib.hid (B6.out.trans (hb.mono B6.out.size))
  have Fa7 := Lib.hid (Fa6.out.below hb)
  have M7 := Lib.hid (M6.out.later hb)
  have Fb7 := Lib.hid (Fb6.out.below hb)
  clear X6 K6 B6 Fa6 M6 Fb6 hb
  have Ya7 := Lib.hid hrYa
  clear hrYa
  obtain ⟨d0, d1⟩ := bkf2 K7.out
  go_wp2_with fail
  refine (CFe.out _ X7.out).mono ?_
  rintro e w8 ⟨rfl, hb⟩
  have X8 := Lib.hid (X7.out.below hb)
  have K8 := Lib.hid (K7.out.later hb)
  have B8 := Lib.hid (B7.out.trans (hb.mono B7.out.size))
  have Fa8 := Lib.hid (Fa7.out.below hb)
  have M8 := Lib.hid (M7.out.later hb)
  have Fb8 := Lib.hid (Fb7.out.below hb)
  have Ya8 := Lib.hid (Ya7.out.below hb)
  clear X7 K7 B7 Fa7 M7 Fb7 Ya7 hb
  clear d0 d1
  obtain ⟨q0, q1, _, _⟩ := cell2 M8.out
  go_wp2
  go_ret
  exact ⟨by simp, B8.out⟩
set_option maxRecDepth 100000 in
set_option maxHeartbeats 4000000 in
theorem mxw_A (A : Option Addr) (n c : Nat) (b : Int) (cs : List Int) (a : Int) (w : World) (Am : Int) (hAm : ¬ Am = 0) (hr : RdI w A n cs) (hn : n ≤ 10) (hA : A = none → n = 0 ∧ c = 0)
    (CMo : ∀ A' c' W, RdI W A' n cs → Calls Try.prog 33 #[.agg #[.slice A' n c', .int .i64 b], .int .i64 a] W fun e w' => e = .returned (.tuple #[.agg #[.int .i64 0, .int .i64 0], .int .i64 Am]) ∧ Below W.heap.size W w')
    (CWo : ∀ A' c' W, RdI W A' n cs → Calls Try.prog 34 #[.agg #[.slice A' n c', .int .i64 b], .int .i64 a] W (RdRes W (Am) 0 []))
    (CFe : ∀ W, RdI W A n cs → Calls Try.prog 30 #[.agg #[.slice A n c, .int .i64 b]] W fun e w' => e = .returned (.int .i64 0) ∧ Below W.heap.size W w')
    (CAe : ∀ W, Calls Try.prog 35 #[.int .i64 a] W fun e w' => e = .returned (.int .i64 Am) ∧ W = w')
    : Calls Try.prog 5 #[.agg #[.slice A n c, .int .i64 b], .int .i64 a] w fun e w' => e = .returned (.bool true) ∧ Below w.heap.size w w' := by
  have CCF : Hid (∀ W, RdI W A n cs → Calls Try.prog 29 #[.agg #[.slice A n c, .int .i64 b]] W (CpF W n b cs)) := fun W h => copyFilter_any A n c b cs W hA h (by omega)
  have CTp := Lib.hid (fun W => taps_any A n c b W)
  rw [decide_eq_true hn] at CTp
  have CMo := Lib.hid CMo
  have CWo := Lib.hid CWo
  have CFe := Lib.hid CFe
  have CAe := Lib.hid CAe
  have dS0 := neF hAm
  have dS1 := neT hAm
  clear hAm
  have X0 := Lib.hid (hr.below (below1 w (.cells #[.slice A n c, .int .i64 b] 45)))
  have K0 := Lib.hid (Bk.new w 45 #[.slice A n c, .int .i64 b])
  have B0 := Lib.hid (below1 w (.cells #[.slice A n c, .int .i64 b] 45))
  clear hr hA
  go_enter Try.func5, Try.ntmps5
  go_wp2_with fail
  refine (awake_any _).mono ?_
  rintro e w1 ⟨rfl, hb⟩
  have X1 := Lib.hid (X0.out.below hb)
  have K1 := Lib.hid (K0.out.later hb)
  have B1 := Lib.hid (B0.out.trans (hb.mono B0.out.size))
  clear X0 K0 B0 hb
  obtain ⟨d0, d1⟩ := bkf2 K1.out
  go_wp2_with fail
  refine (CTp.out _).mono ?_
  rintro e w2 ⟨rfl, hb⟩
  have X2 := Lib.hid (X1.out.below hb)
  have K2 := Lib.hid (K1.out.later hb)
  have B2 := Lib.hid (B1.out.trans (hb.mono B1.out.size))
  clear X1 K1 B1 hb
  clear d0 d1
  obtain ⟨d0, d1⟩ := bkf2 K2.out
  go_wp2_with fail
  refine (CCF.out _ X2.out).mono ?_
  rintro e w3 ⟨⟨AFa, cFa, rfl, hrFa, hcFa, hNFa⟩, hb⟩
  have X3 := Lib.hid (X2.out.below hb)
  have K3 := Lib.hid (K2.out.later hb)
  have B3 := Lib.hid (B2.out.trans (hb.mono B2.out.size))
  clear X2 K2 B2 hb
  have Fa3 := Lib.hid hrFa
  have NFa := Lib.hid hNFa
  clear hrFa hcFa hNFa
  clear d0 d1
  go_wp2_with fail
  refine (CMo.out _ _ _ Fa3.out).mono ?_
  rintro e w4 ⟨rfl, hb⟩
  have X4 := Lib.hid (X3.out.below hb)
  have K4 := Lib.hid (K3.out.later hb)
  have B4 := Lib.hid (B3.out.trans (hb.mono B3.out.size))
  have Fa4 := Lib.hid (Fa3.out.below hb)
  clear X3 K3 B3 Fa3 hb
  have X5 := Lib.hid (X4.out.below (below1 w4 (.cells #[.int .i64 0, .int .i64 0] 28)))
  have K5 := Lib.hid (K4.out.alloc (.cells #[.int .i64 0, .int .i64 0] 28))
  have B5 := Lib.hid (B4.out.alloc B4.out.size (.cells #[.int .i64 0, .int .i64 0] 28))
  have Fa5 := Lib.hid (Fa4.out.below (below1 w4 (.cells #[.int .i64 0, .int .i64 0] 28)))
  clear X4 K4 B4 Fa4
  have M5 := Lib.hid (Bk.new w4 28 #[.int .i64 0, .int .i64 0])
  obtain ⟨d0, d1⟩ := bkf2 K5.out
  go_wp2_with fail
  refine (CCF.out _ X5.out).mono ?_
  rintro e w6 ⟨⟨AFb, cFb, rfl, hrFb, hcFb, hNFb⟩, hb⟩
  have X6 := Lib.hid (X5.out.below hb)
  have K6 := Lib.hid (K5.out.later hb)
  have B6 := Lib.hid (B5.out.trans (hb.mono B5.out.size))
  have Fa6 := Lib.hid (Fa5.out.below hb)
  have M6 := Lib.hid (M5.out.later hb)
  clear X5 K5 B5 Fa5 M5 hb
  have Fb6 := Lib.hid hrFb
  have NFb := Lib.hid hNFb
  clear hrFb hcFb hNFb
  clear d0 d1
  go_wp2_with fail
  refine (CWo.out _ _ _ Fb6.out).mono ?_
  rintro e w7 ⟨⟨AYa, cYa, rfl, hrYa⟩, hb⟩
  have X7 := Lib.hid (X6.out.below hb)
  have K7 := Lib.hid (K6.out.later hb)
  have B7 := Lib.hid (B6.out.trans (hb.mono B6.out.size))
  have Fa7 := Lib.hid (Fa6.out.below hb)
  have M7 := Lib.hid (M6.out.later hb)
  have Fb7 := Lib.hid (Fb6.out.below hb)
  clear X6 K6 B6 Fa6 M6 Fb6 hb
  have Ya7 := Lib.hid hrYa
  clear hrYa
  obtain ⟨d0, d1⟩ := bkf2 K7.out
  go_wp2_with fail
  refine (CFe.out _ X7.out).mono ?_
  rintro e w8 ⟨rfl, hb⟩
  have X8 := Lib.hid (X7.out.below hb)
  have K8 := Lib.hid (K7.out.later hb)
  have B8 := Lib.hid (B7.out.trans (hb.mono B7.out.size))
  have Fa8 := Lib.hid (Fa7.out.below hb)
  have M8 := Lib.hid (M7.out.later hb)
  have Fb8 := Lib.hid (Fb7.out.below hb)
  have Ya8 := Lib.hid (Ya7.out.below hb)
  clear X7 K7 B7 Fa7 M7 Fb7 Ya7 hb
  clear d0 d1
  go_wp2_with fail
  refine (CAe.out _).mono ?_
  rintro e w' ⟨rfl, rfl⟩
  obtain ⟨q0, q1, _, _⟩ := cell2 M8.out
  go_wp2
  go_ret
  exact ⟨by simp, B8.out⟩
set_option maxRecDepth 100000 in
set_option maxHeartbeats 4000000 in
theorem mxw_ok (A : Option Addr) (n c : Nat) (b : Int) (cs : List Int) (a : Int) (w : World) (x y : Int) (hr : RdI w A n cs) (hn : n ≤ 10) (hA : A = none → n = 0 ∧ c = 0)
    (CMo : ∀ A' c' W, RdI W A' n cs → Calls Try.prog 33 #[.agg #[.slice A' n c', .int .i64 b], .int .i64 a] W fun e w' => e = .returned (.tuple #[.agg #[.int .i64 x, .int .i64 y], .int .i64 0]) ∧ Below W.heap.size W w')
    (CWo : ∀ A' c' W, RdI W A' n cs → Calls Try.prog 34 #[.agg #[.slice A' n c', .int .i64 b], .int .i64 a] W (RdRes W (0) n (wrst cs a)))
    (CFe : ∀ W, RdI W A n cs → Calls Try.prog 30 #[.agg #[.slice A n c, .int .i64 b]] W fun e w' => e = .returned (.int .i64 0) ∧ Below W.heap.size W w')
    (CAe : ∀ W, Calls Try.prog 35 #[.int .i64 a] W fun e w' => e = .returned (.int .i64 0) ∧ W = w')
    (CRM : ∀ W, RdI W A n cs → Calls Try.prog 36 #[.agg #[.slice A n c, .int .i64 b], .int .i64 a] W fun e w' => e = .returned (.agg #[.int .i64 x, .int .i64 y]) ∧ Below W.heap.size W w')
    (CRW : ∀ W, RdI W A n cs → Calls Try.prog 37 #[.agg #[.slice A n c, .int .i64 b], .int .i64 a] W (RdOne W n (wrst cs a)))
    : Calls Try.prog 5 #[.agg #[.slice A n c, .int .i64 b], .int .i64 a] w fun e w' => e = .returned (.bool true) ∧ Below w.heap.size w w' := by
  have CCF : Hid (∀ W, RdI W A n cs → Calls Try.prog 29 #[.agg #[.slice A n c, .int .i64 b]] W (CpF W n b cs)) := fun W h => copyFilter_any A n c b cs W hA h (by omega)
  have CTp := Lib.hid (fun W => taps_any A n c b W)
  rw [decide_eq_true hn] at CTp
  have CMo := Lib.hid CMo
  have CWo := Lib.hid CWo
  have CFe := Lib.hid CFe
  have CAe := Lib.hid CAe
  have CRM := Lib.hid CRM
  have CRW := Lib.hid CRW
  have X0 := Lib.hid (hr.below (below1 w (.cells #[.slice A n c, .int .i64 b] 45)))
  have K0 := Lib.hid (Bk.new w 45 #[.slice A n c, .int .i64 b])
  have B0 := Lib.hid (below1 w (.cells #[.slice A n c, .int .i64 b] 45))
  clear hr hA
  go_enter Try.func5, Try.ntmps5
  go_wp2_with fail
  refine (awake_any _).mono ?_
  rintro e w1 ⟨rfl, hb⟩
  have X1 := Lib.hid (X0.out.below hb)
  have K1 := Lib.hid (K0.out.later hb)
  have B1 := Lib.hid (B0.out.trans (hb.mono B0.out.size))
  clear X0 K0 B0 hb
  obtain ⟨d0, d1⟩ := bkf2 K1.out
  go_wp2_with fail
  refine (CTp.out _).mono ?_
  rintro e w2 ⟨rfl, hb⟩
  have X2 := Lib.hid (X1.out.below hb)
  have K2 := Lib.hid (K1.out.later hb)
  have B2 := Lib.hid (B1.out.trans (hb.mono B1.out.size))
  clear X1 K1 B1 hb
  clear d0 d1
  obtain ⟨d0, d1⟩ := bkf2 K2.out
  go_wp2_with fail
  refine (CCF.out _ X2.out).mono ?_
  rintro e w3 ⟨⟨AFa, cFa, rfl, hrFa, hcFa, hNFa⟩, hb⟩
  have X3 := Lib.hid (X2.out.below hb)
  have K3 := Lib.hid (K2.out.later hb)
  have B3 := Lib.hid (B2.out.trans (hb.mono B2.out.size))
  clear X2 K2 B2 hb
  have Fa3 := Lib.hid hrFa
  have NFa := Lib.hid hNFa
  clear hrFa hcFa hNFa
  clear d0 d1
  go_wp2_with fail
  refine (CMo.out _ _ _ Fa3.out).mono ?_
  rintro e w4 ⟨rfl, hb⟩
  have X4 := Lib.hid (X3.out.below hb)
  have K4 := Lib.hid (K3.out.later hb)
  have B4 := Lib.hid (B3.out.trans (hb.mono B3.out.size))
  have Fa4 := Lib.hid (Fa3.out.below hb)
  clear X3 K3 B3 Fa3 hb
  have X5 := Lib.hid (X4.out.below (below1 w4 (.cells #[.int .i64 x, .int .i64 y] 28)))
  have K5 := Lib.hid (K4.out.alloc (.cells #[.int .i64 x, .int .i64 y] 28))
  have B5 := Lib.hid (B4.out.alloc B4.out.size (.cells #[.int .i64 x, .int .i64 y] 28))
  have Fa5 := Lib.hid (Fa4.out.below (below1 w4 (.cells #[.int .i64 x, .int .i64 y] 28)))
  clear X4 K4 B4 Fa4
  have M5 := Lib.hid (Bk.new w4 28 #[.int .i64 x, .int .i64 y])
  obtain ⟨d0, d1⟩ := bkf2 K5.out
  go_wp2_with fail
  refine (CCF.out _ X5.out).mono ?_
  rintro e w6 ⟨⟨AFb, cFb, rfl, hrFb, hcFb, hNFb⟩, hb⟩
  have X6 := Lib.hid (X5.out.below hb)
  have K6 := Lib.hid (K5.out.later hb)
  have B6 := Lib.hid (B5.out.trans (hb.mono B5.out.size))
  have Fa6 := Lib.hid (Fa5.out.below hb)
  have M6 := Lib.hid (M5.out.later hb)
  clear X5 K5 B5 Fa5 M5 hb
  have Fb6 := Lib.hid hrFb
  have NFb := Lib.hid hNFb
  clear hrFb hcFb hNFb
  clear d0 d1
  go_wp2_with fail
  refine (CWo.out _ _ _ Fb6.out).mono ?_
  rintro e w7 ⟨⟨AYa, cYa, rfl, hrYa⟩, hb⟩
  have X7 := Lib.hid (X6.out.below hb)
  have K7 := Lib.hid (K6.out.later hb)
  have B7 := Lib.hid (B6.out.trans (hb.mono B6.out.size))
  have Fa7 := Lib.hid (Fa6.out.below hb)
  have M7 := Lib.hid (M6.out.later hb)
  have Fb7 := Lib.hid (Fb6.out.below hb)
  clear X6 K6 B6 Fa6 M6 Fb6 hb
  have Ya7 := Lib.hid hrYa
  clear hrYa
  obtain ⟨d0, d1⟩ := bkf2 K7.out
  go_wp2_with fail
  refine (CFe.out _ X7.out).mono ?_
  rintro e w8 ⟨rfl, hb⟩
  have X8 := Lib.hid (X7.out.below hb)
  have K8 := Lib.hid (K7.out.later hb)
  have B8 := Lib.hid (B7.out.trans (hb.mono B7.out.size))
  have Fa8 := Lib.hid (Fa7.out.below hb)
  have M8 := Lib.hid (M7.out.later hb)
  have Fb8 := Lib.hid (Fb7.out.below hb)
  have Ya8 := Lib.hid (Ya7.out.below hb)
  clear X7 K7 B7 Fa7 M7 Fb7 Ya7 hb
  clear d0 d1
  go_wp2_with fail
  refine (CAe.out _).mono ?_
  rintro e w' ⟨rfl, rfl⟩
  obtain ⟨q0, q1, _, _⟩ := cell2 M8.out
  obtain ⟨d0, d1⟩ := bkf2 K8.out
  go_wp2
  go_region_held3 (fun w' : World => (w'.cell? ⟨w4.heap.size, 0, none⟩ = some (.int .i64 x) ∧ w'.cell? ⟨w4.heap.size, 1, none⟩ = some (.int .i64 y)) ∧ w'.cell? ⟨w.heap.size, 0, none⟩ = some (.slice A n c) ∧ w'.cell? ⟨w.heap.size, 1, none⟩ = some (.int .i64 b)) ((go_split_ands; simp [go_sem, *])) (first
    | (go_at_call 36; refine (CRM.out _ X8.out.drew).mono ?_; rintro e wq ⟨rfl, hbq⟩; have Kq := (K8.out.drew).later hbq; have Mq := (M8.out.drew).later hbq; obtain ⟨d0, d1⟩ := bkf2 Kq; obtain ⟨q0, q1, _, _⟩ := cell2 Mq)
    | (go_at_call 37; refine (CRW.out _ (X8.out.drew.below hbq)).mono ?_; rintro e wp ⟨⟨Az, cz, rfl, hrz⟩, hbp⟩; have Kp := Kq.later hbp; have Mp := Mq.later hbp; obtain ⟨d0, d1⟩ := bkf2 Kp; obtain ⟨q0, q1, _, _⟩ := cell2 Mp)
    | (go_at_call 21; refine (ints_same _ _ _ _ _ _ _ ((Ya8.out.drew.below hbq).below hbp) hrz (by omega)).mono ?_; rintro e wz ⟨rfl, kk, rfl⟩; obtain ⟨d0, d1⟩ := bkf2 (Kp.drewN kk); obtain ⟨q0, q1, _, _⟩ := cell2 (Mp.drewN kk)))
  all_goals
    have hb := belowDrewN (B8.out.drew.trans ((hbq.trans (hbp.mono hbq.size)).mono B8.out.drew.size)) kk
    go_wp2
    go_ret
    exact ⟨by simp, hb⟩
set_option maxRecDepth 100000 in
set_option maxHeartbeats 4000000 in
theorem mxw_far (A : Option Addr) (n c : Nat) (b : Int) (a : Int) (w : World) (hn : ¬ n ≤ 10)
    : Calls Try.prog 5 #[.agg #[.slice A n c, .int .i64 b], .int .i64 a] w fun e w' => e = .returned (.bool true) ∧ Below w.heap.size w w' := by
  have CTp := Lib.hid (fun W => taps_any A n c b W)
  rw [decide_eq_false hn] at CTp
  clear hn
  have K0 := Lib.hid (Bk.new w 45 #[.slice A n c, .int .i64 b])
  have B0 := Lib.hid (below1 w (.cells #[.slice A n c, .int .i64 b] 45))
  go_enter Try.func5, Try.ntmps5
  go_wp2_with fail
  refine (awake_any _).mono ?_
  rintro e w1 ⟨rfl, hb⟩
  have K1 := Lib.hid (K0.out.later hb)
  have B1 := Lib.hid (B0.out.trans (hb.mono B0.out.size))
  clear K0 B0 hb
  obtain ⟨d0, d1⟩ := bkf2 K1.out
  go_wp2_with fail
  refine (CTp.out _).mono ?_
  rintro e w2 ⟨rfl, hb⟩
  have K2 := Lib.hid (K1.out.later hb)
  have B2 := Lib.hid (B1.out.trans (hb.mono B1.out.size))
  clear K1 B1 hb
  clear d0 d1
  go_wp2
  go_ret
  exact ⟨by simp, B2.out⟩
theorem maxima_walk (A : Option Addr) (n c : Nat) (b : Int) (cs : List Int) (a : Int) (w : World) (hr : RdI w A n cs) (hn0 : n ≤ 9223372036854775807) (hA : A = none → n = 0 ∧ c = 0) :
    Calls Try.prog 5 #[.agg #[.slice A n c, .int .i64 b], .int .i64 a] w fun e w' => e = .returned (.bool true) ∧ Below w.heap.size w w' := by
  by_cases hn : n ≤ 10
  rotate_left
  · exact mxw_far A n c b a w hn
  have CFe := fun W (h : RdI W A n cs) => refFilterErr_any A n c b cs W h (by omega)
  have CAe := fun W => refAmplitudeErr_any a W
  by_cases hD : fltE cs b = 0
  rotate_left
  · obtain ⟨C1, C2⟩ := mo_to (n := n) (mo_D (a := a) hD) rfl (by omega)
    exact mxw_D A n c b cs a w _ hD hr hn hA C1 C2 CFe
  rw [hD] at CFe
  by_cases hS : ampE a = 0
  rotate_left
  · obtain ⟨C1, C2⟩ := mo_to (n := n) (mo_A hD hS) rfl (by omega)
    exact mxw_A A n c b cs a w _ hS hr hn hA C1 C2 CFe CAe
  rw [hS] at CAe
  have hl : (wrst cs a).length = n := (wrst_len cs a).trans hr.1
  obtain ⟨C1, C2⟩ := mo_to (n := n) (mo_ok hD hS) hl (by omega)
  have ha := ampE_zero hS
  have CRM := fun W (h : RdI W A n cs) => refMaximumOutput_any A n c b cs a W h (fltE_zero hD) ha
  rw [hr.1] at C1
  have h8 := (fltE_zero hD).1.2
  exact mxw_ok A n c b cs a w _ _ hr hn hA C1 C2 CFe CAe CRM (fun W h => (refWorstInput_any A n c b cs a W h (by have := hr.1; omega) ha).mono fun e w' ho => ho.rd hl)

end Go.Proofs.Ytghpofhpkbgckaa


namespace Go.Proofs.Ytghpofhpkbgckaa
open Go.RowKit

theorem isLowest_any (x y : Int) (w : World) (hx : -1000000000000000000 ≤ x ∧ x ≤ 1000000000000000000) (hy : 0 < y ∧ y ≤ 1000000000000000000) (hg : Int.gcd x y = 1) :
    Calls Try.prog 39 #[.agg #[.int .i64 x, .int .i64 y]] w fun e w' => e = .returned (.bool true) ∧ Below w.heap.size w w' := by
  have CG := Lib.hid (fun W => bGcd_any x y W hx (by omega))
  rw [hg] at CG
  have K0 := Lib.hid (Bk.new w 28 #[.int .i64 x, .int .i64 y])
  have B0 := Lib.hid (below1 w (.cells #[.int .i64 x, .int .i64 y] 28))
  have hy0 := hy.1
  clear hg hx hy
  go_enter Try.func39, Try.ntmps39
  obtain ⟨d0, d1, _, _⟩ := cell2 K0.out
  go_wp2_with fail
  refine (CG.out _).mono ?_
  rintro e w1 ⟨rfl, hb⟩
  have B1 := Lib.hid (B0.out.trans (hb.mono B0.out.size))
  clear hb
  go_wp2
  go_ret
  exact ⟨by simp, B1.out⟩
/-- The greatest size of numbers. -/
def mxB : List Int → Int → Int
  | [], m => m
  | x :: l, m => mxB l (if m < absF x then absF x else m)
theorem mxB_step (xs : List Int) (k : Nat) (m : Int) (hk : k < xs.length) : mxB (xs.drop k) m = mxB (xs.drop (k + 1)) (if m < absF (xs.getD k 0) then absF (xs.getD k 0) else m) := by
  rw [List.drop_eq_getElem_cons hk]
  simp only [mxB, List.getD_eq_getElem?_getD, List.getElem?_eq_getElem hk, Option.getD_some]
theorem mxB_ge : ∀ (xs : List Int) (m : Int), m ≤ mxB xs m ∧ ∀ x ∈ xs, absF x ≤ mxB xs m
  | [], m => ⟨Int.le_refl _, by simp⟩
  | x :: l, m => by
    have h := mxB_ge l (if m < absF x then absF x else m)
    have h1 : m ≤ (if m < absF x then absF x else m) ∧ absF x ≤ (if m < absF x then absF x else m) := by split <;> omega
    refine ⟨Int.le_trans h1.1 h.1, fun y hy => ?_⟩
    rcases List.mem_cons.1 hy with rfl | hy
    · exact Int.le_trans h1.2 h.1
    · exact h.2 y hy
theorem mxB_le {B : Int} : ∀ (xs : List Int) (m : Int), m ≤ B → (∀ x ∈ xs, absF x ≤ B) → mxB xs m ≤ B
  | [], m, h, _ => h
  | x :: l, m, h, hx => by
    refine mxB_le l _ ?_ (fun y hy => hx y (List.mem_cons_of_mem _ hy))
    have := hx x List.mem_cons_self
    split <;> omega
theorem gcd_one {g : Nat} {x y : Int} (hg : 0 < g) (h : Int.gcd ((g : Int) * x) ((g : Int) * y) = g) : Int.gcd x y = 1 := by
  rw [Int.gcd_mul_left] at h
  have h2 : g * Int.gcd x y = g * 1 := by simpa using h
  exact Nat.eq_of_mul_eq_mul_left hg h2
/-- The parts of a fraction in lowest terms. -/
theorem fr_parts {S b : Int} (hS : 0 ≤ S) (hb : 0 < b) : ∃ g : Int, 0 < g ∧ S = g * frN S b ∧ b = g * frD S b ∧ 0 ≤ frN S b ∧ frN S b ≤ S ∧ 0 < frD S b ∧ frD S b ≤ b ∧ Int.gcd (frN S b) (frD S b) = 1 := by
  have hg : 0 < Int.gcd S b := Int.gcd_pos_of_ne_zero_right _ (by omega)
  have h1 : ((Int.gcd S b : Nat) : Int) ∣ S := Int.gcd_dvd_left ..
  have h2 : ((Int.gcd S b : Nat) : Int) ∣ b := Int.gcd_dvd_right ..
  have e1 : S = (Int.gcd S b : Nat) * frN S b := by unfold frN; rw [Int.mul_tdiv_cancel' h1]
  have e2 : b = (Int.gcd S b : Nat) * frD S b := by unfold frD; rw [Int.mul_tdiv_cancel' h2]
  have e3 : Int.gcd (frN S b) (frD S b) = 1 := gcd_one hg (by rw [← e1, ← e2])
  generalize hgg : (Int.gcd S b : Nat) = g at *
  obtain ⟨x, hx⟩ : ∃ x, frN S b = x := ⟨_, rfl⟩
  obtain ⟨y, hy⟩ : ∃ y, frD S b = y := ⟨_, rfl⟩
  rw [hx] at e1 e3 ⊢
  rw [hy] at e2 e3 ⊢
  have hg1 : (1 : Int) ≤ (g : Int) := by omega
  have hx0 : 0 ≤ x := by
    rcases (by omega : 0 ≤ x ∨ x < 0) with h | h
    · exact h
    · have : (g : Int) * x < 0 := Int.mul_neg_of_pos_of_neg (by omega) h
      omega
  have hy0 : 0 < y := by
    rcases (by omega : 0 < y ∨ y ≤ 0) with h | h
    · exact h
    · have : (g : Int) * y ≤ 0 := Int.mul_nonpos_of_nonneg_of_nonpos (by omega) h
      omega
  have hxl : 1 * x ≤ (g : Int) * x := Int.mul_le_mul_of_nonneg_right hg1 hx0
  have hyl : 1 * y ≤ (g : Int) * y := Int.mul_le_mul_of_nonneg_right hg1 (by omega)
  exact ⟨g, by omega, e1, e2, hx0, by omega, hy0, by omega, e3⟩
theorem ww_to {cs L : List Int} {b a E : Int} {n k : Nat} (h : moE cs b a = E ∧ wiL cs b a = L) (hk : L.length = k) (hn : n ≤ 1000000) :
    ∀ A c W, RdI W A n cs → Calls Try.prog 34 #[.agg #[.slice A n c, .int .i64 b], .int .i64 a] W (RdResN W E k L) := fun A c W hr => by
  refine (WorstInput_any A n c b cs a W hr hn).mono fun e w' ho => ?_
  rw [h.1, h.2] at ho
  exact ho.rdN hk
theorem wrst_bd {cs : List Int} {a : Int} (ha : 0 ≤ a) : ∀ x ∈ wrst cs a, -a ≤ x ∧ x ≤ a := by
  intro x hx
  unfold wrst at hx
  obtain ⟨c, _, rfl⟩ := List.mem_map.1 hx
  unfold sgF
  split
  · omega
  · split <;> omega
set_option maxRecDepth 100000 in
set_option maxHeartbeats 4000000 in
theorem atw_far (A : Option Addr) (n c : Nat) (b : Int) (cs : List Int) (B : Option Addr) (m d : Nat) (xs : List Int) (w : World) (hm : m ≤ 9223372036854775807) (h : 64 < m)
    : Calls Try.prog 6 #[.agg #[.slice A n c, .int .i64 b], .slice B m d] w fun e w' => e = .returned (.bool true) ∧ Below w.heap.size w w' := by
  have h64 : (64 : Int) < (m : Int) := by omega
  have K0 := Lib.hid (Bk.new w 45 #[.slice A n c, .int .i64 b])
  have B0 := Lib.hid (below1 w (.cells #[.slice A n c, .int .i64 b] 45))
  go_enter Try.func6, Try.ntmps6
  go_wp2_with fail
  refine (awake_any _).mono ?_
  rintro e w1 ⟨rfl, hb⟩
  have K1 := Lib.hid (K0.out.later hb)
  have B1 := Lib.hid (B0.out.trans (hb.mono B0.out.size))
  clear K0 B0 hb
  go_wp2
  go_ret
  exact ⟨by simp, B1.out⟩
set_option maxRecDepth 100000 in
set_option maxHeartbeats 4000000 in
theorem atw_D (A : Option Addr) (n c : Nat) (b : Int) (cs : List Int) (B : Option Addr) (m d : Nat) (xs : List Int) (w : World) (h : m ≤ 64) (D : Int) (hD : ¬ D = 0) (hr : RdI w A n cs)
    (CFe : ∀ W, RdI W A n cs → Calls Try.prog 30 #[.agg #[.slice A n c, .int .i64 b]] W fun e w' => e = .returned (.int .i64 D) ∧ Below W.heap.size W w')
    : Calls Try.prog 6 #[.agg #[.slice A n c, .int .i64 b], .slice B m d] w fun e w' => e = .returned (.bool true) ∧ Below w.heap.size w w' := by
  have CFe := Lib.hid CFe
  have dD1 := neT hD
  clear hD
  have h64 : ¬ (64 : Int) < (m : Int) := by omega
  have X0 := Lib.hid (hr.below (below1 w (.cells #[.slice A n c, .int .i64 b] 45)))
  clear hr
  have K0 := Lib.hid (Bk.new w 45 #[.slice A n c, .int .i64 b])
  have B0 := Lib.hid (below1 w (.cells #[.slice A n c, .int .i64 b] 45))
  go_enter Try.func6, Try.ntmps6
  go_wp2_with fail
  refine (awake_any _).mono ?_
  rintro e w1 ⟨rfl, hb⟩
  have X1 := Lib.hid (X0.out.below hb)
  have K1 := Lib.hid (K0.out.later hb)
  have B1 := Lib.hid (B0.out.trans (hb.mono B0.out.size))
  clear X0 K0 B0 hb
  obtain ⟨d0, d1⟩ := bkf2 K1.out
  go_wp2_with fail
  refine (CFe.out _ X1.out).mono ?_
  rintro e w2 ⟨rfl, hb⟩
  have X2 := Lib.hid (X1.out.below hb)
  have K2 := Lib.hid (K1.out.later hb)
  have B2 := Lib.hid (B1.out.trans (hb.mono B1.out.size))
  clear X1 K1 B1 hb
  clear d0 d1
  go_wp2
  go_ret
  exact ⟨by simp, B2.out⟩
set_option maxRecDepth 100000 in
set_option maxHeartbeats 4000000 in
theorem atw_S (A : Option Addr) (n c : Nat) (b : Int) (cs : List Int) (B : Option Addr) (m d : Nat) (xs : List Int) (w : World) (h : m ≤ 64) (Sg : Int) (hS : ¬ Sg = 0) (hr : RdI w A n cs) (hx : RdI w B m xs)
    (CFe : ∀ W, RdI W A n cs → Calls Try.prog 30 #[.agg #[.slice A n c, .int .i64 b]] W fun e w' => e = .returned (.int .i64 0) ∧ Below W.heap.size W w')
    (CSg : ∀ W, RdI W B m xs → Calls Try.prog 19 #[.slice B m d] W fun e w' => e = .returned (.int .i64 Sg) ∧ W = w')
    : Calls Try.prog 6 #[.agg #[.slice A n c, .int .i64 b], .slice B m d] w fun e w' => e = .returned (.bool true) ∧ Below w.heap.size w w' := by
  have CFe := Lib.hid CFe
  have CSg := Lib.hid CSg
  have dS1 := neT hS
  clear hS
  have h64 : ¬ (64 : Int) < (m : Int) := by omega
  have X0 := Lib.hid (hr.below (below1 w (.cells #[.slice A n c, .int .i64 b] 45)))
  clear hr
  have Y0 := Lib.hid (hx.below (below1 w (.cells #[.slice A n c, .int .i64 b] 45)))
  clear hx
  have K0 := Lib.hid (Bk.new w 45 #[.slice A n c, .int .i64 b])
  have B0 := Lib.hid (below1 w (.cells #[.slice A n c, .int .i64 b] 45))
  go_enter Try.func6, Try.ntmps6
  go_wp2_with fail
  refine (awake_any _).mono ?_
  rintro e w1 ⟨rfl, hb⟩
  have X1 := Lib.hid (X0.out.below hb)
  have Y1 := Lib.hid (Y0.out.below hb)
  have K1 := Lib.hid (K0.out.later hb)
  have B1 := Lib.hid (B0.out.trans (hb.mono B0.out.size))
  clear X0 Y0 K0 B0 hb
  obtain ⟨d0, d1⟩ := bkf2 K1.out
  go_wp2_with fail
  refine (CFe.out _ X1.out).mono ?_
  rintro e w2 ⟨rfl, hb⟩
  have X2 := Lib.hid (X1.out.below hb)
  have Y2 := Lib.hid (Y1.out.below hb)
  have K2 := Lib.hid (K1.out.later hb)
  have B2 := Lib.hid (B1.out.trans (hb.mono B1.out.size))
  clear X1 Y1 K1 B1 hb
  clear d0 d1
  go_wp2_with fail
  refine (CSg.out _ Y2.out).mono ?_
  rintro e w' ⟨rfl, rfl⟩
  go_wp2
  go_ret
  exact ⟨by simp, B2.out⟩
set_option maxRecDepth 100000 in
set_option maxHeartbeats 4000000 in
theorem atw_ok (A : Option Addr) (n c : Nat) (b : Int) (cs : List Int) (B : Option Addr) (m d : Nat) (xs : List Int) (w : World) (hr : RdI w A n cs) (hx : RdI w B m xs) (hn : n ≤ 8) (hm : m ≤ 64) (hA : A = none → n = 0 ∧ c = 0) (hB : B = none → m = 0 ∧ d = 0) (hxs : ∀ x ∈ xs, -32767 ≤ x ∧ x ≤ 32767)
    (mo : Int) (hmo : mxB xs 0 = mo) (hmb : 0 ≤ mo ∧ mo ≤ 32767) (x y C v s : Int) (hCb : 0 ≤ C ∧ C ≤ 1000000000000) (ys ws zs : List Int) (hws : ws.length = n) (q : Nat) (hq : n = q + 1) (hzv : zs.getD q 0 = v) (wsy : IntKind.i64.wrap (s * y) = s * y) (wxb : IntKind.i64.wrap (x * b) = s * y)
    (CFe : ∀ W, RdI W A n cs → Calls Try.prog 30 #[.agg #[.slice A n c, .int .i64 b]] W fun e w' => e = .returned (.int .i64 0) ∧ Below W.heap.size W w')
    (CSg : ∀ W, RdI W B m xs → Calls Try.prog 19 #[.slice B m d] W fun e w' => e = .returned (.int .i64 0) ∧ W = w')
    (CMo : ∀ A' c' W, RdI W A' n cs → Calls Try.prog 33 #[.agg #[.slice A' n c', .int .i64 b], .int .i64 mo] W fun e w' => e = .returned (.tuple #[.agg #[.int .i64 x, .int .i64 y], .int .i64 0]) ∧ Below W.heap.size W w')
    (CFl : ∀ A' c' B' d' W, RdI W A' n cs → RdI W B' m xs → Calls Try.prog 28 #[.agg #[.slice A' n c', .int .i64 b], .slice B' m d'] W (RdRes W 0 m ys))
    (CWo : ∀ A' c' W, RdI W A' n cs → Calls Try.prog 34 #[.agg #[.slice A' n c', .int .i64 b], .int .i64 mo] W (RdResN W 0 n ws))
    (CIs : ∀ W, Calls Try.prog 39 #[.agg #[.int .i64 x, .int .i64 y]] W fun e w' => e = .returned (.bool true) ∧ Below W.heap.size W w')
    (CWx : ∀ W, Calls Try.prog 20 #[.int .i64 x, .int .i64 0, .int .i64 1000000000] W fun e w' => e = .returned (.bool true) ∧ W = w')
    (CCe : ∀ W, Calls Try.prog 40 #[.int .i64 x, .int .i64 y] W fun e w' => e = .returned (.int .i64 C) ∧ W = w')
    (CFo : ∀ W, Calls Try.prog 41 #[.int .i64 x, .int .i64 y] W fun e w' => e = .returned (.int .i64 v) ∧ W = w')
    (CFz : ∀ A' c' B' d' W, RdI W A' n cs → RdI W B' n ws → Calls Try.prog 28 #[.agg #[.slice A' n c', .int .i64 b], .slice B' n d'] W (RdRes W 0 n zs))
    (CSA : ∀ B' d' W, RdI W A n cs → RdI W B' n ws → Calls Try.prog 42 #[.agg #[.slice A n c, .int .i64 b], .slice B' n d', .int .i64 (q : Int)] W fun e w' => e = .returned (.int .i64 s) ∧ Below W.heap.size W w')
    (HYB : ∀ k, k < m → fromB (-C) C [ys.getD k 0] = true)
    (HWB : ∀ k, k < n → fromB (-mo) mo [ws.getD k 0] = true)
    : Calls Try.prog 6 #[.agg #[.slice A n c, .int .i64 b], .slice B m d] w fun e w' => e = .returned (.bool true) ∧ Below w.heap.size w w' := by
  have CCF : Hid (∀ W, RdI W A n cs → Calls Try.prog 29 #[.agg #[.slice A n c, .int .i64 b]] W (CpF W n b cs)) := fun W h => copyFilter_any A n c b cs W hA h (by omega)
  have CCI : Hid (∀ W, RdI W B m xs → Calls Try.prog 18 #[.slice B m d] W (RdOne W m xs)) := fun W h => (copyInts_any B m d xs W hB h (by omega)).mono fun e w' ho => ho.rd h.1
  have CCW : Hid (∀ B' d' W, (B' = none → n = 0 ∧ d' = 0) → RdI W B' n ws → Calls Try.prog 18 #[.slice B' n d'] W (RdOne W n ws)) := fun B' d' W hN h => (copyInts_any B' n d' ws W hN h (by omega)).mono fun e w' ho => ho.rd h.1
  have CCL : Hid (xs.length = m) := hx.1
  have CFe := Lib.hid CFe
  have CSg := Lib.hid CSg
  have CMo := Lib.hid CMo
  have CFl := Lib.hid CFl
  have CWo := Lib.hid CWo
  have CIs := Lib.hid CIs
  have CWx := Lib.hid CWx
  have CCe := Lib.hid CCe
  have CFo := Lib.hid CFo
  have CFz := Lib.hid CFz
  have CSA := Lib.hid CSA
  have HYB := Lib.hid HYB
  have HWB := Lib.hid HWB
  have HXS := Lib.hid (fun k => getD_bd (xs := xs) (A := 32767) (by omega) hxs k)
  have HMO := Lib.hid hmo
  have HQ := Lib.hid hq
  have HZV := Lib.hid hzv
  have wC : IntKind.i64.wrap (-C) = -C := IntWalk.i64_in _ (by omega)
  have wmo : IntKind.i64.wrap (-mo) = -mo := IntWalk.i64_in _ (by omega)
  have wq : IntKind.i64.wrap ((n : Int) - 1) = (q : Int) := by rw [show (n : Int) - 1 = (q : Int) by omega]; exact IntWalk.i64_in _ (by omega)
  have hqn : (q : Int) < (n : Int) := by omega
  have hqn2 : q < n := by omega
  have hq0 : (0 : Int) ≤ (q : Int) := by omega
  have h64 : ¬ (64 : Int) < (m : Int) := by omega
  have X0 := Lib.hid (hr.below (below1 w (.cells #[.slice A n c, .int .i64 b] 45)))
  have Y0 := Lib.hid (hx.below (below1 w (.cells #[.slice A n c, .int .i64 b] 45)))
  have K0 := Lib.hid (Bk.new w 45 #[.slice A n c, .int .i64 b])
  have B0 := Lib.hid (below1 w (.cells #[.slice A n c, .int .i64 b] 45))
  clear hr hx hA hB hxs hmo hq hzv hws
  go_enter Try.func6, Try.ntmps6
  go_wp2_with fail
  refine (awake_any _).mono ?_
  rintro e w1 ⟨rfl, hb⟩
  have X1 := Lib.hid (X0.out.below hb)
  have Y1 := Lib.hid (Y0.out.below hb)
  have K1 := Lib.hid (K0.out.later hb)
  have B1 := Lib.hid (B0.out.trans (hb.mono B0.out.size))
  clear X0 Y0 K0 B0 hb
  obtain ⟨d0, d1⟩ := bkf2 K1.out
  go_wp2_with fail
  refine (CFe.out _ X1.out).mono ?_
  rintro e w2 ⟨rfl, hb⟩
  have X2 := Lib.hid (X1.out.below hb)
  have Y2 := Lib.hid (Y1.out.below hb)
  have K2 := Lib.hid (K1.out.later hb)
  have B2 := Lib.hid (B1.out.trans (hb.mono B1.out.size))
  clear X1 Y1 K1 B1 hb
  clear d0 d1
  go_wp2_with fail
  refine (CSg.out _ Y2.out).mono ?_
  rintro e w' ⟨rfl, rfl⟩
  go_wp2
  go_loop [5, 6] (fun u i => ∃ (k : Nat) (z : Int), k ≤ m ∧ i = .int .i64 k ∧ u = .int .i64 z ∧ (0 ≤ z ∧ z ≤ 32767) ∧ Hid (mxB xs 0 = mxB (xs.drop k) z)) (fun _ i => m - (intOf i).toNat)
  case atStart => exact ⟨0, 0, Nat.zero_le _, rfl, rfl, by omega, rfl⟩
  case round =>
    obtain ⟨k, z, hk, rfl, rfl, hz, HI⟩ := hrel
    by_cases hlt : k < m
    · obtain ⟨ad, rfl, hlt2, hc⟩ := Y2.out.2 (by omega)
      have hck := hc k hlt
      have hxb := HXS.out k
      have hs := mxB_step xs k z (by have := CCL.out; omega)
      obtain ⟨p, hx⟩ : ∃ x, xs.getD k 0 = x := ⟨_, rfl⟩
      rw [hx] at hck hxb hs
      have ha := absF_bd p 32767 hxb
      have CZ := Lib.hid (fun w => bsize_any p w (by omega))
      obtain ⟨y2, hy⟩ : ∃ y, absF p = y := ⟨_, rfl⟩
      rw [hy] at ha CZ hs
      have hkI : (k : Int) < (m : Int) := by omega
      clear hc hx hy
      by_cases hm : z < y2
      · rw [if_pos hm] at hs
        have HS := Lib.hid hs
        clear hs
        go_wp2_with fail
        refine (CZ.out _).mono ?_
        rintro e w' ⟨rfl, rfl⟩
        go_wp2
        go_round
        case rel => exact ⟨k + 1, y2, by omega, by go_num, by simp [hm], by omega, by show _ = _; rw [HI.out, HS.out]⟩
        case measure => simp [intOf]; omega
      · rw [if_neg hm] at hs
        have HS := Lib.hid hs
        clear hs
        go_wp2_with fail
        refine (CZ.out _).mono ?_
        rintro e w' ⟨rfl, rfl⟩
        go_wp2
        go_round
        case rel => exact ⟨k + 1, z, by omega, by go_num, by simp [hm], by omega, by show _ = _; rw [HI.out, HS.out]⟩
        case measure => simp [intOf]; omega
    · obtain rfl : m = k := by omega
      have hzm : mo = z := by
        have := HI.out
        rw [List.drop_eq_nil_of_le (by have := CCL.out; omega), HMO.out] at this
        exact this
      subst hzm
      have hkI : ¬ (m : Int) < (m : Int) := by omega
      clear HI hlt
      obtain ⟨d0, d1⟩ := bkf2 K2.out
      go_wp2_with fail
      refine (CCF.out _ X2.out).mono ?_
      rintro e w3 ⟨⟨AFa, cFa, rfl, hrFa, hcFa, hNFa⟩, hb⟩
      have X3 := Lib.hid (X2.out.below hb)
      have Y3 := Lib.hid (Y2.out.below hb)
      have K3 := Lib.hid (K2.out.later hb)
      have B3 := Lib.hid (B2.out.trans (hb.mono B2.out.size))
      clear X2 Y2 K2 B2 hb
      have Fa3 := Lib.hid hrFa
      have NFa := Lib.hid hNFa
      clear hrFa hcFa hNFa
      clear d0 d1
      go_wp2_with fail
      refine (CMo.out _ _ _ Fa3.out).mono ?_
      rintro e w4 ⟨rfl, hb⟩
      have X4 := Lib.hid (X3.out.below hb)
      have Y4 := Lib.hid (Y3.out.below hb)
      have K4 := Lib.hid (K3.out.later hb)
      have B4 := Lib.hid (B3.out.trans (hb.mono B3.out.size))
      have Fa4 := Lib.hid (Fa3.out.below hb)
      clear X3 Y3 K3 B3 Fa3 hb
      have X5 := Lib.hid (X4.out.below (below1 w4 (.cells #[.int .i64 x, .int .i64 y] 28)))
      have Y5 := Lib.hid (Y4.out.below (below1 w4 (.cells #[.int .i64 x, .int .i64 y] 28)))
      have K5 := Lib.hid (K4.out.alloc (.cells #[.int .i64 x, .int .i64 y] 28))
      have B5 := Lib.hid (B4.out.alloc B4.out.size (.cells #[.int .i64 x, .int .i64 y] 28))
      have Fa5 := Lib.hid (Fa4.out.below (below1 w4 (.cells #[.int .i64 x, .int .i64 y] 28)))
      clear X4 Y4 K4 B4 Fa4
      have M5 := Lib.hid (Bk.new w4 28 #[.int .i64 x, .int .i64 y])
      obtain ⟨d0, d1⟩ := bkf2 K5.out
      go_wp2_with fail
      refine (CCF.out _ X5.out).mono ?_
      rintro e w6 ⟨⟨AFb, cFb, rfl, hrFb, hcFb, hNFb⟩, hb⟩
      have X6 := Lib.hid (X5.out.below hb)
      have Y6 := Lib.hid (Y5.out.below hb)
      have K6 := Lib.hid (K5.out.later hb)
      have B6 := Lib.hid (B5.out.trans (hb.mono B5.out.size))
      have M6 := Lib.hid (M5.out.later hb)
      clear X5 Y5 K5 B5 M5 hb
      have Fb6 := Lib.hid hrFb
      have NFb := Lib.hid hNFb
      clear hrFb hcFb hNFb
      clear d0 d1
      go_wp2_with fail
      refine (CCI.out _ Y6.out).mono ?_
      rintro e w7 ⟨⟨AXa, cXa, rfl, hrXa⟩, hb⟩
      have X7 := Lib.hid (X6.out.below hb)
      have Y7 := Lib.hid (Y6.out.below hb)
      have K7 := Lib.hid (K6.out.later hb)
      have B7 := Lib.hid (B6.out.trans (hb.mono B6.out.size))
      have M7 := Lib.hid (M6.out.later hb)
      have Fb7 := Lib.hid (Fb6.out.below hb)
      clear X6 Y6 K6 B6 M6 Fb6 hb
      have Xa7 := Lib.hid hrXa
      clear hrXa
      go_wp2_with fail
      refine (CFl.out _ _ _ _ _ Fb7.out Xa7.out).mono ?_
      rintro e w8 ⟨⟨AYa, cYa, rfl, hrYa⟩, hb⟩
      have X8 := Lib.hid (X7.out.below hb)
      have Y8 := Lib.hid (Y7.out.below hb)
      have K8 := Lib.hid (K7.out.later hb)
      have B8 := Lib.hid (B7.out.trans (hb.mono B7.out.size))
      have M8 := Lib.hid (M7.out.later hb)
      have Fb8 := Lib.hid (Fb7.out.below hb)
      have Xa8 := Lib.hid (Xa7.out.below hb)
      clear X7 Y7 K7 B7 M7 Fb7 Xa7 hb
      have Ya8 := Lib.hid hrYa
      clear hrYa
      obtain ⟨d0, d1⟩ := bkf2 K8.out
      go_wp2_with fail
      refine (CCF.out _ X8.out).mono ?_
      rintro e w9 ⟨⟨AFc, cFc, rfl, hrFc, hcFc, hNFc⟩, hb⟩
      have X9 := Lib.hid (X8.out.below hb)
      have Y9 := Lib.hid (Y8.out.below hb)
      have K9 := Lib.hid (K8.out.later hb)
      have B9 := Lib.hid (B8.out.trans (hb.mono B8.out.size))
      have M9 := Lib.hid (M8.out.later hb)
      have Ya9 := Lib.hid (Ya8.out.below hb)
      clear X8 Y8 K8 B8 M8 Ya8 hb
      have Fc9 := Lib.hid hrFc
      have NFc := Lib.hid hNFc
      clear hrFc hcFc hNFc
      clear d0 d1
      go_wp2_with fail
      refine (CWo.out _ _ _ Fc9.out).mono ?_
      rintro e w10 ⟨⟨AWa, cWa, rfl, hrWa, _, hNWa⟩, hb⟩
      have X10 := Lib.hid (X9.out.below hb)
      have Y10 := Lib.hid (Y9.out.below hb)
      have K10 := Lib.hid (K9.out.later hb)
      have B10 := Lib.hid (B9.out.trans (hb.mono B9.out.size))
      have M10 := Lib.hid (M9.out.later hb)
      have Ya10 := Lib.hid (Ya9.out.below hb)
      have Fc10 := Lib.hid (Fc9.out.below hb)
      clear X9 Y9 K9 B9 M9 Ya9 Fc9 hb
      have Wa10 := Lib.hid hrWa
      have NWa := Lib.hid hNWa
      clear hrWa hNWa
      obtain ⟨q0, q1, _, _⟩ := cell2 M10.out
      go_wp2_with fail
      refine (CIs.out _).mono ?_
      rintro e w11 ⟨rfl, hb⟩
      have X11 := Lib.hid (X10.out.below hb)
      have Y11 := Lib.hid (Y10.out.below hb)
      have K11 := Lib.hid (K10.out.later hb)
      have B11 := Lib.hid (B10.out.trans (hb.mono B10.out.size))
      have M11 := Lib.hid (M10.out.later hb)
      have Ya11 := Lib.hid (Ya10.out.below hb)
      have Wa11 := Lib.hid (Wa10.out.below hb)
      clear X10 Y10 K10 B10 M10 Ya10 Wa10 hb
      clear q0 q1
      obtain ⟨q0, q1, _, _⟩ := cell2 M11.out
      go_wp2_with fail
      refine (CWx.out _).mono ?_
      rintro e w' ⟨rfl, rfl⟩
      clear q0 q1
      obtain ⟨d0, d1⟩ := bkf2 K11.out
      go_wp2
      clear d0 d1
      go_loopw [13] (fun i wr => ∃ k : Nat, k ≤ m ∧ i = .int .i64 k ∧ Hid (∃ j, wr = w11.drewN j)) (fun i _ => m - (intOf i).toNat)
      case atStart => exact ⟨0, Nat.zero_le _, rfl, 0, rfl⟩
      case round =>
        obtain ⟨k, hk, rfl, HJ⟩ := hrel
        obtain ⟨j, hj⟩ := HJ.out
        by_cases hlt : k < m
        · obtain ⟨ay, rfl, _, hc⟩ := (Ya11.out.drewN j).2 (by omega)
          have hck := hc k hlt
          have cM := cell2 (M11.out.drewN j)
          rw [← hj] at hck cM
          obtain ⟨q0, q1, _, _⟩ := cM
          have CY := Lib.hid (fun w => within_any (ys.getD k 0) (-C) C w)
          rw [HYB.out k hlt] at CY
          obtain ⟨yk, hyk⟩ : ∃ y, ys.getD k 0 = y := ⟨_, rfl⟩
          rw [hyk] at hck CY
          have hkI : (k : Int) < (m : Int) := by omega
          have HJ' := Lib.hid hj
          clear hc hyk hj HJ
          go_wp2
          go_quiet ((first | (go_at_call 40; exact quietP (CCe.out _)) | (go_at_call 20; exact quietP (CY.out _))))
          go_wp2
          go_roundw
          case rel => exact ⟨k + 1, by omega, by go_num, by rw [HJ'.out]; exact ⟨_, World.drewN_drewN _ _ _⟩⟩
          case measure => simp [intOf]; omega
        · obtain rfl : m = k := by omega
          have hkI : ¬ (m : Int) < (m : Int) := by omega
          clear hlt
          have X12 := Lib.hid (X11.out.drewN j)
          have Y12 := Lib.hid (Y11.out.drewN j)
          have K12 := Lib.hid (K11.out.drewN j)
          have B12 := Lib.hid (belowDrewN B11.out j)
          have M12 := Lib.hid (M11.out.drewN j)
          have Ya12 := Lib.hid (Ya11.out.drewN j)
          have Wa12 := Lib.hid (Wa11.out.drewN j)
          clear X11 Y11 K11 B11 M11 Ya11 Wa11
          rw [← hj] at X12 Y12 K12 B12 M12 Ya12 Wa12
          clear hj HJ
          obtain ⟨w12, hw12⟩ : ∃ W, W = wr := ⟨_, rfl⟩
          subst hw12
          go_wp2
          go_loop [14] (fun i => ∃ k : Nat, k ≤ n ∧ i = .int .i64 k) (fun i => n - (intOf i).toNat)
          case atStart => exact ⟨0, Nat.zero_le _, rfl⟩
          case round =>
            obtain ⟨k, hk, rfl⟩ := hrel
            by_cases hlt : k < n
            · obtain ⟨ay, rfl, _, hc⟩ := Wa12.out.2 (by omega)
              have hck := hc k hlt
              have CY := Lib.hid (fun w => within_any (ws.getD k 0) (-mo) mo w)
              rw [HWB.out k hlt] at CY
              obtain ⟨yk, hyk⟩ : ∃ y, ws.getD k 0 = y := ⟨_, rfl⟩
              rw [hyk] at hck CY
              have hkI : (k : Int) < (n : Int) := by omega
              clear hc hyk
              go_wp2_with fail
              refine (CY.out _).mono ?_
              rintro e w' ⟨rfl, rfl⟩
              go_wp2
              go_round
              case rel => exact ⟨k + 1, by omega, by go_num⟩
              case measure => simp [intOf]; omega
            · obtain rfl : n = k := by omega
              have hkI : ¬ (n : Int) < (n : Int) := by omega
              clear hlt
              obtain ⟨d0, d1⟩ := bkf2 K12.out
              go_wp2_with fail
              refine (CCF.out _ X12.out).mono ?_
              rintro e w13 ⟨⟨AFd, cFd, rfl, hrFd, hcFd, hNFd⟩, hb⟩
              have X13 := Lib.hid (X12.out.below hb)
              have Y13 := Lib.hid (Y12.out.below hb)
              have K13 := Lib.hid (K12.out.later hb)
              have B13 := Lib.hid (B12.out.trans (hb.mono B12.out.size))
              have M13 := Lib.hid (M12.out.later hb)
              have Ya13 := Lib.hid (Ya12.out.below hb)
              have Wa13 := Lib.hid (Wa12.out.below hb)
              clear X12 Y12 K12 B12 M12 Ya12 Wa12 hb
              have Fd13 := Lib.hid hrFd
              have NFd := Lib.hid hNFd
              clear hrFd hcFd hNFd
              clear d0 d1
              go_wp2_with fail
              refine (CCW.out _ _ _ NWa.out Wa13.out).mono ?_
              rintro e w14 ⟨⟨AWb, cWb, rfl, hrWb⟩, hb⟩
              have X14 := Lib.hid (X13.out.below hb)
              have Y14 := Lib.hid (Y13.out.below hb)
              have K14 := Lib.hid (K13.out.later hb)
              have B14 := Lib.hid (B13.out.trans (hb.mono B13.out.size))
              have M14 := Lib.hid (M13.out.later hb)
              have Ya14 := Lib.hid (Ya13.out.below hb)
              have Wa14 := Lib.hid (Wa13.out.below hb)
              have Fd14 := Lib.hid (Fd13.out.below hb)
              clear X13 Y13 K13 B13 M13 Ya13 Wa13 Fd13 hb
              have Wb14 := Lib.hid hrWb
              clear hrWb
              go_wp2_with fail
              refine (CFz.out _ _ _ _ _ Fd14.out Wb14.out).mono ?_
              rintro e w15 ⟨⟨AZa, cZa, rfl, hrZa⟩, hb⟩
              have X15 := Lib.hid (X14.out.below hb)
              have Y15 := Lib.hid (Y14.out.below hb)
              have K15 := Lib.hid (K14.out.later hb)
              have B15 := Lib.hid (B14.out.trans (hb.mono B14.out.size))
              have M15 := Lib.hid (M14.out.later hb)
              have Ya15 := Lib.hid (Ya14.out.below hb)
              have Wa15 := Lib.hid (Wa14.out.below hb)
              have Fd15 := Lib.hid (Fd14.out.below hb)
              have Wb15 := Lib.hid (Wb14.out.below hb)
              clear X14 Y14 K14 B14 M14 Ya14 Wa14 Fd14 Wb14 hb
              have Za15 := Lib.hid hrZa
              clear hrZa
              obtain ⟨az, rfl, _, hcz⟩ := Za15.out.2 (by omega)
              have hz := hcz q hqn2
              rw [HZV.out] at hz
              clear hcz
              have hzb : az.block < w15.heap.size := by have := World.block_lt_of_cell? _ _ hz; rwa [addBlock] at this
              obtain ⟨d0, d1⟩ := bkf2 K15.out
              obtain ⟨q0, q1, _, _⟩ := cell2 M15.out
              have hza : ∀ W, Below w15.heap.size w15 W → W.cell? (az.add q) = some (.int .i64 v) := fun W hb => (hb.cell (by rw [addBlock]; exact hzb)).trans hz
              have HZA := Lib.hid hza
              clear hza
              go_wp2
              go_region_held3 (fun w' : World => ((w'.cell? ⟨w4.heap.size, 0, none⟩ = some (.int .i64 x) ∧ w'.cell? ⟨w4.heap.size, 1, none⟩ = some (.int .i64 y)) ∧ w'.cell? ⟨w.heap.size, 0, none⟩ = some (.slice A n c) ∧ w'.cell? ⟨w.heap.size, 1, none⟩ = some (.int .i64 b)) ∧ w'.cell? (az.add q) = some (.int .i64 v)) ((go_split_ands; simp [go_sem, *])) (first
                | (go_at_call 41; refine (CFo.out _).mono ?_; rintro e w' ⟨rfl, rfl⟩)
                | (go_at_call 42; refine (CSA.out _ _ _ X15.out.drew Wa15.out.drew).mono ?_; rintro e wq ⟨rfl, hbq⟩; have Kq := (K15.out.drew).later hbq; have Mq := (M15.out.drew).later hbq; obtain ⟨d0, d1⟩ := bkf2 Kq; obtain ⟨q0, q1, _, _⟩ := cell2 Mq; have hz := HZA.out _ ((Below.refl _ _).drew.trans hbq)))
              all_goals
                have hb := B15.out.drew.trans (hbq.mono B15.out.drew.size)
                go_wp2
                go_ret
                exact ⟨by simp, hb⟩
theorem attained_walk (A : Option Addr) (n c : Nat) (b : Int) (cs : List Int) (B : Option Addr) (m d : Nat) (xs : List Int) (w : World) (hr : RdI w A n cs) (hn0 : n ≤ 9223372036854775807) (hA : A = none → n = 0 ∧ c = 0) (hnc : n ≤ c) (hx : RdI w B m xs) (hm0 : m ≤ 9223372036854775807) (hB : B = none → m = 0 ∧ d = 0) :
    Calls Try.prog 6 #[.agg #[.slice A n c, .int .i64 b], .slice B m d] w fun e w' => e = .returned (.bool true) ∧ Below w.heap.size w w' := by
  by_cases hm : m ≤ 64
  rotate_left
  · exact atw_far A n c b cs B m d xs w hm0 (by omega)
  have CFe := fun W (h : RdI W A n cs) => refFilterErr_any A n c b cs W h (by omega)
  have CSg := fun W (h : RdI W B m xs) => refSignalErr_any B m d xs W h (by omega)
  by_cases hD : fltE cs b = 0
  rotate_left
  · exact atw_D A n c b cs B m d xs w hm _ hD hr CFe
  rw [hD] at CFe
  by_cases hS : sigE xs = 0
  rotate_left
  · exact atw_S A n c b cs B m d xs w hm _ hS hr hx CFe CSg
  rw [hS] at CSg
  have hok := fltE_zero hD
  have hcl := hr.1
  have hxs := (sigE_zero hS).2
  have hge := mxB_ge xs 0
  have hle : mxB xs 0 ≤ 32767 := mxB_le xs 0 (by omega) (fun x hx => absF_le.2 (hxs x hx))
  obtain ⟨mo, hmo⟩ : ∃ mo, mxB xs 0 = mo := ⟨_, rfl⟩
  rw [hmo] at hge hle
  have hxm : ∀ x ∈ xs, -mo ≤ x ∧ x ≤ mo := fun x hx => absF_le.1 (hge.2 x hx)
  have ha : ampE mo = 0 := rngE_of ⟨hge.1, hle⟩
  have hmk := mo_ok (cs := cs) hD ha
  have hwl : (wrst cs mo).length = n := (wrst_len cs mo).trans hcl
  obtain ⟨C1, _⟩ := mo_to (n := n) hmk hwl (by omega)
  have CWo := ww_to (n := n) ⟨hmk.1, hmk.2.2.2⟩ hwl (by omega)
  rw [hcl] at C1
  have hSb := absP_bd hok.2.1 ⟨hge.1, hle⟩ n (by omega)
  have hyb : ∀ k, -(absS cs n * mo) ≤ fsum cs xs k ∧ fsum cs xs k ≤ absS cs n * mo := fun k => by
    have := fsP_le cs xs mo hge.1 (fun k => getD_bd hge.1 hxm k) k cs.length
    rw [hcl] at this
    show -(absS cs n * mo) ≤ fsP cs xs k cs.length ∧ fsP cs xs k cs.length ≤ _
    rw [hcl]; exact this
  have hsw : fsum cs (wrst cs mo) (n - 1) = absS cs n * mo := by
    have := fsP_wrst cs mo (by omega) cs.length (Nat.le_refl _)
    rw [fsum]
    rw [hcl] at this ⊢
    exact this
  obtain ⟨S, hSS⟩ : ∃ S, absS cs n * mo = S := ⟨_, rfl⟩
  rw [hSS] at C1 hSb hyb hsw
  obtain ⟨g, hg, e1, e2, hx0, hxl, hy0, hyl, hgcd⟩ := fr_parts (S := S) (b := b) hSb.1 (by omega)
  obtain ⟨x, hxx⟩ : ∃ x, frN S b = x := ⟨_, rfl⟩
  obtain ⟨y, hyy⟩ : ∃ y, frD S b = y := ⟨_, rfl⟩
  rw [hxx] at C1 e1 hx0 hxl hgcd
  rw [hyy] at C1 e2 hy0 hyl hgcd
  have CWx := fun W => within_any x 0 1000000000 W
  rw [show fromB 0 1000000000 [x] = true by rw [fromB_one]; exact decide_eq_true (by omega)] at CWx
  have hCe : 0 ≤ upF x y ∧ upF x y ≤ 1000000000000 := by
    have h1 := div_bd (n := -x) (d := y) (M := 262136000) (by omega) (by omega) hy0
    have h2 : (-x) / y < 1 := by rw [Int.ediv_lt_iff_lt_mul hy0]; omega
    unfold upF
    omega
  have hwb := wrst_bd (cs := cs) hge.1
  have hsg : sigE (wrst cs mo) = 0 := by
    have h1 : ¬ 400 < (wrst cs mo).length := by omega
    show (if 400 < (wrst cs mo).length then (8 : Int) else rngE (-32767) 32767 (wrst cs mo)) = 0
    rw [if_neg h1]
    exact rngE_ofall (fun x hx => by have := hwb x hx; omega)
  have hb : 0 < b := by omega
  have hq : n = (n - 1) + 1 := by omega
  have hsy := mul_bd (a := S) (b := y) (A := 262136000) (B := 1000) (by omega) (by omega) (by omega) (by omega)
  have hxb : x * b = S * y := by rw [e1, e2, ← Int.mul_assoc, Int.mul_comm x g]
  exact atw_ok A n c b cs B m d xs w hr hx (by omega) hm hA hB hxs mo hmo ⟨hge.1, hle⟩ x y (upF x y) (x / y) S hCe (filt cs b xs) (wrst cs mo) (filt cs b (wrst cs mo)) hwl (n - 1) hq
    (by rw [filt_at _ _ _ _ (by omega), hsw]; exact floor_eq hg e1 e2) (IntWalk.i64_in _ (by omega)) (by rw [hxb]; exact IntWalk.i64_in _ (by omega))
    CFe CSg C1 (fun A' c' B' d' W h1 h2 => fl_to (fls_ok hD hS) ((filt_len cs b xs).trans hx.1) (by omega) (by omega) A' c' B' d' W h1 h2) CWo
    (fun W => isLowest_any x y W (by omega) (by omega) hgcd) CWx (fun W => ceil_any x y (by omega) (by omega) W) (fun W => floor_any x y (by omega) (by omega) W)
    (fun A' c' B' d' W h1 h2 => fl_to (fls_ok hD hsg) ((filt_len cs b _).trans hwl) (by omega) (by omega) A' c' B' d' W h1 h2)
    (fun B' d' W h1 h2 => by
      have := refSumAt_any A n c b cs B' n d' (wrst cs mo) (n - 1) W h1 (by omega) hok.2.1 h2 (by omega) (by omega) (fun x hx => by have := hwb x hx; omega)
      rwa [hsw] at this)
    (fun k hk => by
      rw [filt_at _ _ _ _ (by have := hx.1; omega), fromB_one]
      exact decide_eq_true (ceil_bd hy0 hg e1 e2 (hyb k)))
    (fun k hk => by
      rw [fromB_one]
      exact decide_eq_true (getD_bd hge.1 hwb k))

end Go.Proofs.Ytghpofhpkbgckaa

