import Derived.Test.YtghpofhpkbgckaaGF

namespace Go.Proofs.Ytghpofhpkbgckaa
open Go.RowKit

/-! ### the greatest output -/
def moE (cs : List Int) (b a : Int) : Int := firstNZ [fltE cs b, ampE a]
def moN (cs : List Int) (b a : Int) : Int := if moE cs b a = 0 then frN (absS cs cs.length * a) b else 0
def moD (cs : List Int) (b a : Int) : Int := if moE cs b a = 0 then frD (absS cs cs.length * a) b else 0
theorem absS_bd {cs : List Int} (hc : ∀ c ∈ cs, -1000 ≤ c ∧ c ≤ 1000) : ∀ k : Nat, 0 ≤ absS cs k ∧ absS cs k ≤ 1000 * (k : Int)
  | 0 => by simp [absS]
  | k + 1 => by
    have ih := absS_bd hc k
    have h := absF_bd (cs.getD k 0) 1000 (getD_bd (by omega) hc k)
    show 0 ≤ absS cs k + absF (cs.getD k 0) ∧ absS cs k + absF (cs.getD k 0) ≤ _
    omega
theorem absP_bd {cs : List Int} (hc : ∀ c ∈ cs, -1000 ≤ c ∧ c ≤ 1000) {a : Int} (ha : 0 ≤ a ∧ a ≤ 32767) (k : Nat) (hk : k ≤ 8) : 0 ≤ absS cs k * a ∧ absS cs k * a ≤ 262136000 := by
  have h := absS_bd hc k
  have h1 := mul_bd (a := absS cs k) (b := a) (A := 8000) (B := 32767) (by omega) (by omega) (by omega) (by omega)
  have h2 : 0 ≤ absS cs k * a := Int.mul_nonneg h.1 ha.1
  omega
theorem moE_zero {cs : List Int} {b a : Int} (h : moE cs b a = 0) : ((1 ≤ cs.length ∧ cs.length ≤ 8) ∧ (∀ c ∈ cs, -1000 ≤ c ∧ c ≤ 1000) ∧ 1 ≤ b ∧ b ≤ 1000) ∧ 0 ≤ a ∧ a ≤ 32767 :=
  ⟨fltE_zero (firstNZ_zero h (fltE cs b) (by simp)), ampE_zero (firstNZ_zero h (ampE a) (by simp))⟩
theorem cell2 {W : World} {g : Nat} {t : TypeId} {x y : Value} (h : Bk W g t #[x, y]) : W.cell? ⟨g, 0, none⟩ = some x ∧ W.cell? ⟨g, 1, none⟩ = some y ∧ W.frozen? ⟨g, 0, none⟩ = false ∧ W.frozen? ⟨g, 1, none⟩ = false :=
  ⟨by rw [h.cell]; rfl, by rw [h.cell]; rfl, h.frozen 0, h.frozen 1⟩
set_option maxRecDepth 100000 in
set_option maxHeartbeats 4000000 in
theorem MaximumOutput_any (A : Option Addr) (n c : Nat) (b : Int) (cs : List Int) (a : Int) (w : World) (hr : RdI w A n cs) (hn : n ≤ 1000000) :
    Calls Try.prog 33 #[.agg #[.slice A n c, .int .i64 b], .int .i64 a] w fun e w' => e = .returned (.tuple #[.agg #[.int .i64 (moN cs b a), .int .i64 (moD cs b a)], .int .i64 (moE cs b a)]) ∧ Below w.heap.size w w' := by
  have CQ : Hid (∀ W, RdI W A n cs → Calls Try.prog 31 #[.agg #[.slice A n c, .int .i64 b]] W fun e w' => e = .returned (.int .i64 (fltE cs b)) ∧ Below W.heap.size W w') := fun W h => CheckFilter_any A n c cs b W h (by omega)
  have CA := Lib.hid (fun W => checkAmplitude_any a W)
  have HCN : Hid (cs.length = n) := hr.1
  have HE : Hid (firstNZ [fltE cs b, ampE a] = moE cs b a) := rfl
  have HOK : Hid (moE cs b a = 0 → _) := fun h => moE_zero h
  have HN : Hid (moN cs b a = if moE cs b a = 0 then frN (absS cs cs.length * a) b else 0) := rfl
  have HD : Hid (moD cs b a = if moE cs b a = 0 then frD (absS cs cs.length * a) b else 0) := rfl
  rw [HCN.out] at HN HD
  obtain ⟨x, hx⟩ : ∃ z, moN cs b a = z := ⟨_, rfl⟩
  obtain ⟨y, hy⟩ : ∃ z, moD cs b a = z := ⟨_, rfl⟩
  rw [hx] at HN ⊢
  rw [hy] at HD ⊢
  obtain ⟨E, hE⟩ : ∃ E, moE cs b a = E := ⟨_, rfl⟩
  rw [hE] at HE HOK HN HD ⊢
  obtain ⟨E1, hE1⟩ : ∃ E, fltE cs b = E := ⟨_, rfl⟩
  obtain ⟨E2, hE2⟩ : ∃ E, ampE a = E := ⟨_, rfl⟩
  rw [hE1] at HE CQ
  rw [hE2] at HE CA
  clear hx hy hE hE1 hE2
  have X0 := Lib.hid (hr.below (below2 w (.cells #[.slice A n c, .int .i64 b] 45) (.cells #[.int .i64 0, .int .i64 0] 28)))
  have K0 := Lib.hid ((Bk.new w 45 #[.slice A n c, .int .i64 b]).alloc (.cells #[.int .i64 0, .int .i64 0] 28))
  have R0 : Hid (Bk ((w.alloc (.cells #[.slice A n c, .int .i64 b] 45)).alloc (.cells #[.int .i64 0, .int .i64 0] 28)) (w.heap.size + 1) 28 #[.int .i64 0, .int .i64 0]) := by
    have := Bk.new (w.alloc (.cells #[.slice A n c, .int .i64 b] 45)) 28 #[.int .i64 0, .int .i64 0]
    refine Lib.hid ?_
    simpa using this
  have B0 := Lib.hid (below2 w (.cells #[.slice A n c, .int .i64 b] 45) (.cells #[.int .i64 0, .int .i64 0] 28))
  clear hr
  go_enter Try.func33, Try.ntmps33
  obtain ⟨d0, d1⟩ := bkf2 K0.out
  go_wp2_with fail
  refine (CQ.out _ X0.out).mono ?_
  rintro e w1 ⟨rfl, hb⟩
  have X1 := Lib.hid (X0.out.below hb)
  have K1 := Lib.hid (K0.out.later hb)
  have R1 := Lib.hid (R0.out.later hb)
  have B1 := Lib.hid (B0.out.trans (hb.mono B0.out.size))
  clear X0 K0 R0 B0 hb
  clear d0 d1
  go_wp2_with fail
  refine (CA.out _).mono ?_
  rintro e w2 ⟨rfl, hb⟩
  have X2 := Lib.hid (X1.out.below hb)
  have K2 := Lib.hid (K1.out.later hb)
  have R2 := Lib.hid (R1.out.later hb)
  have B2 := Lib.hid (B1.out.trans (hb.mono B1.out.size))
  clear X1 K1 R1 B1 hb
  have X3 := Lib.hid (X2.out.below (below1 w2 (.cells #[.int .i64 E1, .int .i64 E2] 29)))
  have K3 := Lib.hid (K2.out.alloc (.cells #[.int .i64 E1, .int .i64 E2] 29))
  have R3 := Lib.hid (R2.out.alloc (.cells #[.int .i64 E1, .int .i64 E2] 29))
  have B3 := Lib.hid (B2.out.alloc B2.out.size (.cells #[.int .i64 E1, .int .i64 E2] 29))
  clear X2 K2 R2 B2
  go_wp2_with fail
  refine (firstError2 (E1 := E1) (E2 := E2) (F := E) HE.out _ _ ?_ ?_).mono ?_
  · simp [go_sem]
  · simp [go_sem]
  rintro e w' ⟨rfl, rfl⟩
  obtain ⟨w3, hw3⟩ : ∃ W, w2.alloc (.cells #[.int .i64 E1, .int .i64 E2] 29) = W := ⟨_, rfl⟩
  rw [hw3] at X3 K3 R3 B3 ⊢
  clear hw3
  clear HE CQ CA
  obtain ⟨d0, d1⟩ := bkf2 K3.out
  obtain ⟨e0, e1, f0, f1⟩ := cell2 R3.out
  by_cases h0 : E = 0
  · subst h0
    obtain ⟨hok, ha⟩ := HOK.out rfl
    have hn8 : n ≤ 8 := by have := HCN.out; omega
    have HC : Hid (∀ k, -1000 ≤ cs.getD k 0 ∧ cs.getD k 0 ≤ 1000) := fun k => getD_bd (by omega) hok.2.1 k
    have HP : Hid (∀ k, k ≤ 8 → 0 ≤ absS cs k * a ∧ absS cs k * a ≤ 262136000) := fun k hk => absP_bd hok.2.1 ha k hk
    have HS : Hid (∀ k, absS cs (k + 1) * a = absS cs k * a + absF (cs.getD k 0) * a) := fun k => by show (absS cs k + absF (cs.getD k 0)) * a = _; rw [Int.add_mul]
    have H0 : Hid (absS cs 0 * a = 0) := by show (0 : Int) * a = 0; simp
    obtain ⟨P, hP⟩ : ∃ P : Nat → Int, (fun k => absS cs k * a) = P := ⟨_, rfl⟩
    have HPP : ∀ k, absS cs k * a = P k := fun k => by rw [← hP]
    rw [if_pos rfl] at HN HD
    simp only [HPP] at HP HS H0 HN HD
    have hp8 := HP.out n (by omega)
    have CFR := Lib.hid (fun W => fractionOf_any (P n) b W (by omega) (by omega))
    rw [← HN.out, ← HD.out] at CFR
    have hb0 := hok.2.2
    clear HOK hok hP HPP HN HD hp8 e0 e1 f0 f1
    go_wp2
    go_loop [7, 23] (fun s i => ∃ k : Nat, k ≤ n ∧ i = .int .i64 k ∧ s = .int .i64 (P k)) (fun _ i => n - (intOf i).toNat)
    case atStart => exact ⟨0, Nat.zero_le _, rfl, by rw [H0.out]⟩
    case round =>
      obtain ⟨k, hk, rfl, rfl⟩ := hrel
      by_cases hlt : k < n
      · obtain ⟨ad, rfl, _, hca⟩ := X3.out.2 (by omega)
        have hck := hca k hlt
        have hcb := HC.out k
        have hs := HS.out k
        have hp := HP.out k (by omega)
        have hp1 := HP.out (k + 1) (by omega)
        clear hca
        obtain ⟨x, hx⟩ : ∃ x, cs.getD k 0 = x := ⟨_, rfl⟩
        rw [hx] at hck hcb hs
        have CZ := Lib.hid (fun W => rsize_any x W (by omega))
        have hu := absF_bd x 1000 hcb
        obtain ⟨u, hu2⟩ : ∃ u, absF x = u := ⟨_, rfl⟩
        rw [hu2] at CZ hu hs
        clear hx hu2
        have hkI : (k : Int) < (n : Int) := by omega
        obtain ⟨p, hpp⟩ : ∃ p, P k = p := ⟨_, rfl⟩
        rw [hpp] at hs hp
        have w1 : IntKind.i64.wrap (u * a) = u * a := IntWalk.i64_in _ (by omega)
        have w2 : IntKind.i64.wrap (p + u * a) = p + u * a := IntWalk.i64_in _ (by omega)
        rw [hpp]
        have HSS := Lib.hid hs
        clear hs hpp
        go_wp2_with fail
        refine (CZ.out _).mono ?_
        rintro e w' ⟨rfl, rfl⟩
        go_wp2
        go_round
        case rel => exact ⟨k + 1, by omega, by go_num, by rw [HSS.out]⟩
        case measure => simp [intOf]; omega
      · obtain rfl : n = k := by omega
        have hkI : ¬ (n : Int) < (n : Int) := by omega
        clear hlt
        go_wp2_with fail
        refine (CFR.out _).mono ?_
        rintro e wz ⟨rfl, hbz⟩
        have RZ := R3.out.later hbz
        have BZ := B3.out.trans (hbz.mono B3.out.size)
        obtain ⟨e0, e1, f0, f1⟩ := cell2 RZ
        clear hbz
        go_wp2
        refine bodyPost_ret (v := .tuple #[.agg #[.int .i64 x, .int .i64 y], .int .i64 0]) (by simp [results, Try.results33, go_sem, e0, e1, f0, f1]) rfl ⟨rfl, ?_⟩
        have := BZ.size
        go_grown
  · have d2 : (E != 0) = true := by rw [bne_iff_ne]; exact h0
    have hx := HN.out
    have hy := HD.out
    rw [if_neg h0] at hx hy
    subst hx hy
    clear HOK HN HD h0
    go_wp2
    refine bodyPost_ret (v := .tuple #[.agg #[.int .i64 0, .int .i64 0], .int .i64 E]) (by simp [results, Try.results33, go_sem, e0, e1, f0, f1]) rfl ⟨rfl, ?_⟩
    have := B3.out
    have := this.size
    go_grown
set_option maxRecDepth 100000 in
set_option maxHeartbeats 4000000 in
theorem refMaximumOutput_any (A : Option Addr) (n c : Nat) (b : Int) (cs : List Int) (a : Int) (w : World) (hr : RdI w A n cs) (hok : (1 ≤ cs.length ∧ cs.length ≤ 8) ∧ (∀ c ∈ cs, -1000 ≤ c ∧ c ≤ 1000) ∧ 1 ≤ b ∧ b ≤ 1000) (ha : 0 ≤ a ∧ a ≤ 32767) :
    Calls Try.prog 36 #[.agg #[.slice A n c, .int .i64 b], .int .i64 a] w fun e w' => e = .returned (.agg #[.int .i64 (frN (absS cs n * a) b), .int .i64 (frD (absS cs n * a) b)]) ∧ Below w.heap.size w w' := by
  have HCN : Hid (cs.length = n) := hr.1
  have hn8 : n ≤ 8 := by have := HCN.out; omega
  have HC : Hid (∀ k, -1000 ≤ cs.getD k 0 ∧ cs.getD k 0 ≤ 1000) := fun k => getD_bd (by omega) hok.2.1 k
  have HP : Hid (∀ k : Nat, 0 ≤ absS cs k ∧ absS cs k ≤ 1000 * (k : Int)) := absS_bd hok.2.1
  have HS : Hid (∀ k, absS cs (k + 1) = absS cs k + absF (cs.getD k 0)) := fun k => rfl
  have H0 : Hid (absS cs 0 = 0) := rfl
  have hpa := absP_bd hok.2.1 ha n hn8
  obtain ⟨P, hP⟩ : ∃ P, absS cs = P := ⟨_, rfl⟩
  rw [hP] at HP HS H0 hpa ⊢
  have CL := Lib.hid (fun W => bLowest_any (P n * a) b W (by omega) (by omega))
  have hb0 := hok.2.2
  obtain ⟨x, hx⟩ : ∃ z, frN (P n * a) b = z := ⟨_, rfl⟩
  obtain ⟨y, hy⟩ : ∃ z, frD (P n * a) b = z := ⟨_, rfl⟩
  rw [hx, hy] at CL ⊢
  have wm : IntKind.i64.wrap (P n * a) = P n * a := IntWalk.i64_in _ (by omega)
  have X0 := Lib.hid (hr.below (below2 w (.cells #[.slice A n c, .int .i64 b] 45) (.cells #[.int .i64 0, .int .i64 0] 28)))
  have K0 := Lib.hid ((Bk.new w 45 #[.slice A n c, .int .i64 b]).alloc (.cells #[.int .i64 0, .int .i64 0] 28))
  have R0 : Hid (Bk ((w.alloc (.cells #[.slice A n c, .int .i64 b] 45)).alloc (.cells #[.int .i64 0, .int .i64 0] 28)) (w.heap.size + 1) 28 #[.int .i64 0, .int .i64 0]) := by
    have := Bk.new (w.alloc (.cells #[.slice A n c, .int .i64 b] 45)) 28 #[.int .i64 0, .int .i64 0]
    refine Lib.hid ?_
    simpa using this
  have B0 := Lib.hid (below2 w (.cells #[.slice A n c, .int .i64 b] 45) (.cells #[.int .i64 0, .int .i64 0] 28))
  clear hr hok hP hx hy
  go_enter Try.func36, Try.ntmps36
  go_wp2
  obtain ⟨W1, hW1⟩ : ∃ W, (w.alloc (.cells #[.slice A n c, .int .i64 b] 45)).alloc (.cells #[.int .i64 0, .int .i64 0] 28) = W := ⟨_, rfl⟩
  rw [hW1] at X0 K0 R0 B0 ⊢
  clear hW1
  obtain ⟨d0, d1⟩ := bkf2 K0.out
  go_loop [5, 6] (fun s i => ∃ k : Nat, k ≤ n ∧ i = .int .i64 k ∧ s = .int .i64 (P k)) (fun _ i => n - (intOf i).toNat)
  case atStart => exact ⟨0, Nat.zero_le _, rfl, by rw [H0.out]⟩
  case round =>
    obtain ⟨k, hk, rfl, rfl⟩ := hrel
    by_cases hlt : k < n
    · obtain ⟨ad, rfl, _, hca⟩ := X0.out.2 (by omega)
      have hck := hca k hlt
      have hcb := HC.out k
      have hs := HS.out k
      have hp := HP.out k
      clear hca
      obtain ⟨x, hx⟩ : ∃ x, cs.getD k 0 = x := ⟨_, rfl⟩
      rw [hx] at hck hcb hs
      have CZ := Lib.hid (fun W => bsize_any x W (by omega))
      have hu := absF_bd x 1000 hcb
      obtain ⟨u, hu2⟩ : ∃ u, absF x = u := ⟨_, rfl⟩
      rw [hu2] at CZ hu hs
      clear hx hu2
      have hkI : (k : Int) < (n : Int) := by omega
      obtain ⟨p, hpp⟩ : ∃ p, P k = p := ⟨_, rfl⟩
      rw [hpp] at hs hp
      have w2 : IntKind.i64.wrap (p + u) = p + u := IntWalk.i64_in _ (by omega)
      rw [hpp]
      have HSS := Lib.hid hs
      clear hs hpp
      go_wp2_with fail
      refine (CZ.out _).mono ?_
      rintro e w' ⟨rfl, rfl⟩
      go_wp2
      go_round
      case rel => exact ⟨k + 1, by omega, by go_num, by rw [HSS.out]⟩
      case measure => simp [intOf]; omega
    · obtain rfl : n = k := by omega
      have hkI : ¬ (n : Int) < (n : Int) := by omega
      clear hlt
      go_wp2_with fail
      refine (CL.out _).mono ?_
      rintro e wz ⟨rfl, hbz⟩
      have RZ := R0.out.later hbz
      have BZ := B0.out.trans (hbz.mono B0.out.size)
      obtain ⟨e0, e1, f0, f1⟩ := cell2 RZ
      clear hbz
      go_wp2
      refine bodyPost_ret (v := .agg #[.int .i64 x, .int .i64 y]) (by simp [results, Try.results36, go_sem, e0, e1, f0, f1]) rfl ⟨rfl, ?_⟩
      have := BZ.size
      go_grown

end Go.Proofs.Ytghpofhpkbgckaa


namespace Go.Proofs.Ytghpofhpkbgckaa
open Go.RowKit

/-! ### the worst input -/
def wsP (cs : List Int) (a : Int) (k : Nat) : List Int := List.replicate (cs.length - k) 0 ++ ((cs.take k).map fun c => sgF c * a).reverse
theorem wsP_len (cs : List Int) (a : Int) (k : Nat) (hk : k ≤ cs.length) : (wsP cs a k).length = cs.length := by
  simp [wsP]; omega
theorem wsP_zero (cs : List Int) (a : Int) : wsP cs a 0 = List.replicate cs.length 0 := by simp [wsP]
theorem wsP_all (cs : List Int) (a : Int) : wsP cs a cs.length = wrst cs a := by simp [wsP, wrst]
theorem wsP_set (cs : List Int) (a : Int) (k : Nat) (hk : k < cs.length) : (wsP cs a k).set (cs.length - 1 - k) (sgF (cs.getD k 0) * a) = wsP cs a (k + 1) := by
  unfold wsP
  have e1 : cs.length - k = (cs.length - 1 - k) + 1 := by omega
  have e2 : cs.length - (k + 1) = cs.length - 1 - k := by omega
  have e3 : cs.take (k + 1) = cs.take k ++ [cs.getD k 0] := by
    rw [List.take_succ_eq_append_getElem hk]
    simp [List.getD_eq_getElem?_getD, List.getElem?_eq_getElem hk]
  rw [e1, e2, e3, List.replicate_succ', List.append_assoc, List.set_append_right _ _ (by simp)]
  simp
theorem sg_bd (c a : Int) (ha : 0 ≤ a ∧ a ≤ 32767) : -32767 ≤ sgF c * a ∧ sgF c * a ≤ 32767 := by
  unfold sgF
  split
  · omega
  · split <;> omega
theorem isNaN_any (x : Int) (w : World) : Calls Try.prog 98 #[.int .i64 x] w fun e w' => e = .returned (.bool false) ∧ w = w' := by
  have h : (x != x) = false := by simp
  go_enter Try.func98, Try.ntmps98
  go_wp2
  go_ret
  exact ⟨by simp, rfl⟩
theorem compare0_any (x : Int) (w : World) : Calls Try.prog 79 #[.int .i64 x, .int .i64 0] w fun e w' => e = .returned (.int .i64 (sgF x)) ∧ w = w' := by
  have C := Lib.hid (fun (x : Int) w => isNaN_any x w)
  have HS : Hid (sgF x = if 0 < x then 1 else if x < 0 then -1 else 0) := rfl
  rcases (by omega : x < 0 ∨ x = 0 ∨ 0 < x) with h | h | h
  · have h2 : ¬ 0 < x := by omega
    go_enter Try.func79, Try.ntmps79
    go_wp2_with (go_at_call 98; refine (C.out _ _).mono ?_; rintro e w' ⟨rfl, rfl⟩)
    go_ret
    exact ⟨by rw [HS.out, if_neg (by omega), if_pos h]; rfl, rfl⟩
  · subst h
    go_enter Try.func79, Try.ntmps79
    go_wp2_with (go_at_call 98; refine (C.out _ _).mono ?_; rintro e w' ⟨rfl, rfl⟩)
    go_ret
    exact ⟨by rw [HS.out]; rfl, rfl⟩
  · have h2 : ¬ x < 0 := by omega
    go_enter Try.func79, Try.ntmps79
    go_wp2_with (go_at_call 98; refine (C.out _ _).mono ?_; rintro e w' ⟨rfl, rfl⟩)
    go_ret
    exact ⟨by rw [HS.out, if_pos h]; rfl, rfl⟩
def wiL (cs : List Int) (b a : Int) : List Int := if moE cs b a = 0 then wrst cs a else []
set_option maxRecDepth 100000 in
set_option maxHeartbeats 4000000 in
theorem WorstInput_any (A : Option Addr) (n c : Nat) (b : Int) (cs : List Int) (a : Int) (w : World) (hr : RdI w A n cs) (hn : n ≤ 1000000) :
    Calls Try.prog 34 #[.agg #[.slice A n c, .int .i64 b], .int .i64 a] w (OwnRes w (moE cs b a) (wiL cs b a)) := by
  have CQ : Hid (∀ W, RdI W A n cs → Calls Try.prog 31 #[.agg #[.slice A n c, .int .i64 b]] W fun e w' => e = .returned (.int .i64 (fltE cs b)) ∧ Below W.heap.size W w') := fun W h => CheckFilter_any A n c cs b W h (by omega)
  have CA := Lib.hid (fun W => checkAmplitude_any a W)
  have HCN : Hid (cs.length = n) := hr.1
  have HE : Hid (firstNZ [fltE cs b, ampE a] = moE cs b a) := rfl
  have HOK : Hid (moE cs b a = 0 → _) := fun h => moE_zero h
  have HL : Hid (wiL cs b a = if moE cs b a = 0 then wrst cs a else []) := rfl
  obtain ⟨L, hL⟩ : ∃ z, wiL cs b a = z := ⟨_, rfl⟩
  rw [hL] at HL ⊢
  obtain ⟨E, hE⟩ : ∃ E, moE cs b a = E := ⟨_, rfl⟩
  rw [hE] at HE HOK HL ⊢
  obtain ⟨E1, hE1⟩ : ∃ E, fltE cs b = E := ⟨_, rfl⟩
  obtain ⟨E2, hE2⟩ : ∃ E, ampE a = E := ⟨_, rfl⟩
  rw [hE1] at HE CQ
  rw [hE2] at HE CA
  clear hL hE hE1 hE2
  have X0 := Lib.hid (hr.below (below1 w (.cells #[.slice A n c, .int .i64 b] 45)))
  have K0 := Lib.hid (Bk.new w 45 #[.slice A n c, .int .i64 b])
  have B0 := Lib.hid (below1 w (.cells #[.slice A n c, .int .i64 b] 45))
  clear hr
  go_enter Try.func34, Try.ntmps34
  obtain ⟨d0, d1⟩ := bkf2 K0.out
  go_wp2_with fail
  refine (CQ.out _ X0.out).mono ?_
  rintro e w1 ⟨rfl, hb⟩
  have X1 := Lib.hid (X0.out.below hb)
  have K1 := Lib.hid (K0.out.later hb)
  have B1 := Lib.hid (B0.out.trans (hb.mono B0.out.size))
  clear X0 K0 B0 hb
  clear d0 d1
  go_wp2_with fail
  refine (CA.out _).mono ?_
  rintro e w2 ⟨rfl, hb⟩
  have X2 := Lib.hid (X1.out.below hb)
  have K2 := Lib.hid (K1.out.later hb)
  have B2 := Lib.hid (B1.out.trans (hb.mono B1.out.size))
  clear X1 K1 B1 hb
  have X3 := Lib.hid (X2.out.below (below1 w2 (.cells #[.int .i64 E1, .int .i64 E2] 29)))
  have K3 := Lib.hid (K2.out.alloc (.cells #[.int .i64 E1, .int .i64 E2] 29))
  have B3 := Lib.hid (B2.out.alloc B2.out.size (.cells #[.int .i64 E1, .int .i64 E2] 29))
  clear X2 K2 B2
  go_wp2_with fail
  refine (firstError2 (E1 := E1) (E2 := E2) (F := E) HE.out _ _ ?_ ?_).mono ?_
  · simp [go_sem]
  · simp [go_sem]
  rintro e w' ⟨rfl, rfl⟩
  obtain ⟨w3, hw3⟩ : ∃ W, w2.alloc (.cells #[.int .i64 E1, .int .i64 E2] 29) = W := ⟨_, rfl⟩
  rw [hw3] at X3 K3 B3 ⊢
  clear hw3
  clear HE CQ CA
  obtain ⟨d0, d1⟩ := bkf2 K3.out
  by_cases h0 : E = 0
  · subst h0
    obtain ⟨hok, ha⟩ := HOK.out rfl
    have hn8 : n ≤ 8 := by have := HCN.out; omega
    have hn0 : 0 < n := by have := HCN.out; omega
    have HSB : Hid (∀ c, -32767 ≤ sgF c * a ∧ sgF c * a ≤ 32767) := fun c => sg_bd c a ha
    have HSET : Hid (∀ k, k < n → (wsP cs a k).set (n - 1 - k) (sgF (cs.getD k 0) * a) = wsP cs a (k + 1)) := fun k hk => by have h := HCN.out; subst h; exact wsP_set cs a k hk
    have HLEN : Hid (∀ k, k ≤ n → (wsP cs a k).length = n) := fun k hk => (wsP_len cs a k (by have := HCN.out; omega)).trans HCN.out
    have HZ : Hid (wsP cs a 0 = List.replicate n 0) := by show _ = _; rw [wsP_zero, HCN.out]
    have hL := HL.out
    rw [if_pos rfl, ← wsP_all, HCN.out] at hL
    have HL2 := Lib.hid hL
    obtain ⟨P, hP⟩ : ∃ P : Nat → List Int, wsP cs a = P := ⟨_, rfl⟩
    rw [hP] at HSET HLEN HZ HL2
    have hmi := make_ints n (by omega)
    obtain ⟨q, hq⟩ : ∃ q, n = q + 1 := ⟨n - 1, by have := HCN.out; omega⟩
    have v1 : IntKind.i64.wrap ((n : Int) - 1) = (q : Int) := by rw [show (n : Int) - 1 = (q : Int) by omega]; exact IntWalk.i64_in _ (by omega)
    have v2 : IntKind.i64.wrap ((q : Int) + 1) = (n : Int) := by rw [show (q : Int) + 1 = (n : Int) by omega]; exact IntWalk.i64_in _ (by omega)
    have HQ := Lib.hid hq
    obtain ⟨d0', d1'⟩ := bkf2 (K3.out.alloc (.cells (iArr (List.replicate n 0)) 3))
    clear HOK hok hP HL hL hq
    go_wp2
    obtain ⟨g, hg⟩ : ∃ g, w3.heap.size = g := ⟨_, rfl⟩
    obtain ⟨W4, hW4⟩ : ∃ W4, w3.alloc (.cells (iArr (List.replicate n 0)) 3) = W4 := ⟨_, rfl⟩
    have KG : Hid (Bk W4 g 3 (iArr (P 0))) := by show Bk _ _ _ _; rw [HZ.out, ← hW4, ← hg]; exact Bk.new _ _ _
    have KW : Hid (Bk W4 w.heap.size 45 #[.slice A n c, .int .i64 b]) := by show Bk _ _ _ _; rw [← hW4]; exact K3.out.alloc _
    have XW : Hid (RdI W4 A n cs) := by show RdI _ _ _ _; rw [← hW4]; exact X3.out.below (below1 _ _)
    have BW : Hid (Below w.heap.size w W4) := by show Below _ _ _; rw [← hW4]; exact B3.out.alloc B3.out.size _
    have hgw : w.heap.size ≤ g := by rw [← hg]; exact B3.out.size
    have hgA : Hid (∀ ad, A = some ad → ad.block ≠ g) := fun ad hA => by
      obtain ⟨a2, h2, h3, _⟩ := X3.out.2 (by omega)
      rw [hA] at h2
      cases h2
      omega
    clear d0 d1 d0' d1'
    try rw [hW4]
    try rw [hg]
    clear hW4 hg hmi X3 K3 B3 v1 v2
    go_loopw [30] (fun i wr => ∃ k : Nat, k ≤ n ∧ i = .int .i64 k ∧ Hid (Bk wr g 3 (iArr (P k))) ∧ Hid (RdI wr A n cs) ∧ Hid (Below w.heap.size w wr)) (fun i _ => n - (intOf i).toNat)
    case atStart => exact ⟨0, Nat.zero_le _, rfl, KG, XW, BW⟩
    case round =>
      obtain ⟨k, hk, rfl, HK, HX, HB⟩ := hrel
      by_cases hlt : k < n
      · obtain ⟨ad, rfl, hadb, hca⟩ := HX.out.2 (by omega)
        have hck := hca k hlt
        clear hca
        have hs := HSET.out k hlt
        have hsb := HSB.out (cs.getD k 0)
        obtain ⟨x, hx⟩ : ∃ x, cs.getD k 0 = x := ⟨_, rfl⟩
        rw [hx] at hck hs hsb
        have CC := Lib.hid (fun W => compare0_any x W)
        obtain ⟨s, hse⟩ : ∃ s, sgF x = s := ⟨_, rfl⟩
        rw [hse] at CC hs hsb
        clear hx hse
        have w1 : IntKind.i64.wrap (s * a) = s * a := IntWalk.i64_in _ (by omega)
        obtain ⟨j, hj⟩ : ∃ j, n - 1 - k = j := ⟨_, rfl⟩
        rw [hj] at hs
        have hq := HQ.out
        have v3 : IntKind.i64.wrap ((q : Int) - (k : Int)) = (j : Int) := by rw [show (q : Int) - (k : Int) = (j : Int) by omega]; exact IntWalk.i64_in _ (by omega)
        have hjn : (j : Int) < (n : Int) := by omega
        clear hq
        have hjn2 : j < n := by omega
        have hkI : (k : Int) < (n : Int) := by omega
        have hg1 : wr.cell? ⟨g, j, none⟩ = some (.int .i64 ((P k).getD j 0)) := by rw [HK.out.cell]; exact iArr_at _ _ (by rw [HLEN.out k hk]; omega)
        have hf1 : wr.frozen? ⟨g, j, none⟩ = false := HK.out.frozen j
        obtain ⟨o, ho⟩ : ∃ o, (P k).getD j 0 = o := ⟨_, rfl⟩
        rw [ho] at hg1
        have HKN : Hid (Bk (wr.setCell ⟨g, j, none⟩ (.int .i64 (s * a))) g 3 (iArr (P (k + 1)))) := by
          refine Lib.hid ?_
          have := HK.out.set_ j (.int .i64 (s * a))
          rw [iArr_set, hs] at this
          exact this
        have HXN : Hid (RdI (wr.setCell ⟨g, j, none⟩ (.int .i64 (s * a))) (some ad) n cs) := by
          have hne := hgA.out ad rfl
          refine ⟨HX.out.1, fun hn0 => ?_⟩
          obtain ⟨ad', hA, h2, h3⟩ := HX.out.2 hn0
          refine ⟨ad', hA, by simpa using h2, fun i hi => ?_⟩
          cases hA
          rw [World.cell?_setCell_far _ _ _ _ (fun e => hne (by rw [addBlock] at e; exact e.symm))]
          exact h3 i hi
        have HBN : Hid (Below w.heap.size w (wr.setCell ⟨g, j, none⟩ (.int .i64 (s * a)))) := HB.out.setCell (p := ⟨g, j, none⟩) hgw _
        clear ho hs hj hadb
        go_wp2_with fail
        refine (CC.out _).mono ?_
        rintro e w' ⟨rfl, rfl⟩
        go_wp2
        go_roundw
        case rel => exact ⟨k + 1, by omega, by go_num, HKN, HXN, HBN⟩
        case measure => simp [intOf]; omega
      · obtain rfl : n = k := by omega
        have hkI : ¬ (n : Int) < (n : Int) := by omega
        clear hlt
        go_wp2
        go_ret2
        rw [HL2.out]
        have hl := HLEN.out n hk
        exact ⟨⟨_, rfl, by rw [hl]; exact own_of_bk n HK.out hl hgw (by omega)⟩, HB.out⟩
  · have d2 : (E != 0) = true := by rw [bne_iff_ne]; exact h0
    have hL := HL.out
    rw [if_neg h0] at hL
    subst hL
    clear HOK HL h0
    go_wp2
    go_ret2
    exact OwnRes.none_ B3.out
set_option maxRecDepth 100000 in
set_option maxHeartbeats 4000000 in
theorem refWorstInput_any (A : Option Addr) (n c : Nat) (b : Int) (cs : List Int) (a : Int) (w : World) (hr : RdI w A n cs) (hn : n ≤ 8) (ha : 0 ≤ a ∧ a ≤ 32767) :
    Calls Try.prog 37 #[.agg #[.slice A n c, .int .i64 b], .int .i64 a] w (OwnS w (wrst cs a)) := by
  have HCN : Hid (cs.length = n) := hr.1
  have X0 := Lib.hid (hr.below (below1 w (.cells #[.slice A n c, .int .i64 b] 45)))
  have K0 := Lib.hid (Bk.new w 45 #[.slice A n c, .int .i64 b])
  have B0 := Lib.hid (below1 w (.cells #[.slice A n c, .int .i64 b] 45))
  have HLL : Hid ((wrst cs a).length = n) := (wrst_len cs a).trans hr.1
  have HST : Hid (∀ r, r < n → (wrst cs a).take (n - r) = (wrst cs a).take (n - (r + 1)) ++ [sgF (cs.getD r 0) * a]) := fun r h => by
    have hl := HLL.out
    have hc := HCN.out
    have h1 := take_snoc (l := wrst cs a) (k := n - (r + 1)) (by omega)
    rw [show n - (r + 1) + 1 = n - r by omega] at h1
    have h2 := wrst_at cs a r (by omega)
    rw [show cs.length - 1 - r = n - (r + 1) by omega] at h2
    rw [h1, h2]
  have HSG : Hid (∀ c, sgF c * a = if 0 < c then a else if c < 0 then -a else 0) := fun c => by
    unfold sgF
    split
    · simp
    · split <;> simp
  obtain ⟨L, hL⟩ : ∃ L, wrst cs a = L := ⟨_, rfl⟩
  rw [hL] at HLL HST ⊢
  clear hL hr
  obtain ⟨i0, hi0, hza, hzb, hzc⟩ := info_parts intInfo'
  have wn : IntKind.i64.wrap ((n : Int) - 1) = (n : Int) - 1 := IntWalk.i64_in _ (by omega)
  have wa : IntKind.i64.wrap (-a) = -a := IntWalk.i64_in _ (by omega)
  go_enter Try.func37, Try.ntmps37
  go_wp2
  obtain ⟨W1, hW1⟩ : ∃ W, w.alloc (.cells #[.slice A n c, .int .i64 b] 45) = W := ⟨_, rfl⟩
  rw [hW1] at X0 K0 B0 ⊢
  clear hW1
  go_loopw [5, 6] (fun p i wr => ∃ (r : Nat) (iv : Int), r ≤ n ∧ iv = (r : Int) - 1 ∧ i = .int .i64 iv ∧ Hid (wr.ownsRow W1.heap.size 3 1 p (n - r) ((L.take (n - r)).map (Value.int .i64))) ∧ Hid (Below W1.heap.size W1 wr)) (fun _ i _ => (intOf i + 1).toNat)
  case atStart => exact ⟨n, (n : Int) - 1, Nat.le_refl _, rfl, rfl, by rw [Nat.sub_self]; exact Lib.hid (World.ownsRow_nil _ _ _ _), Lib.hid (Below.refl _ _)⟩
  case round =>
    obtain ⟨r, iv, hrn, hiv, rfl, HI, HB⟩ := hrel
    obtain ⟨A2, cap2, hp, _, _⟩ := rd_of_own HI.out
    subst hp
    obtain ⟨d0, d1⟩ := bkf2 (K0.out.later HB.out)
    by_cases hlt : 0 < r
    · obtain ⟨k, rfl⟩ : ∃ k, r = k + 1 := ⟨r - 1, by omega⟩
      obtain rfl : iv = (k : Int) := by omega
      have hxw := X0.out.below HB.out
      obtain ⟨ad, rfl, _, hca⟩ := hxw.2 (by omega)
      have hck := hca k (by omega)
      clear hca hxw
      have hs := HST.out k (by omega)
      have hg := HSG.out (cs.getD k 0)
      obtain ⟨x, hx⟩ : ∃ x, cs.getD k 0 = x := ⟨_, rfl⟩
      rw [hx] at hck hs hg
      clear hx
      obtain ⟨v, hv⟩ : ∃ v, sgF x * a = v := ⟨_, rfl⟩
      rw [hv] at hs hg
      have HS := Lib.hid hs
      have HG := Lib.hid hg
      clear hs hg hv hiv
      have hkn : (k : Int) < (n : Int) := by omega
      have hkn2 : k < n := by omega
      have hk0 : (0 : Int) ≤ (k : Int) := by omega
      have wk : IntKind.i64.wrap ((k : Int) - 1) = (k : Int) - 1 := IntWalk.i64_in _ (by omega)
      rcases (by omega : 0 < x ∨ x = 0 ∨ x < 0) with hx | hx | hx
      · have hx2 : ¬ x < 0 := by omega
        have hv := HG.out
        rw [if_pos hx] at hv
        clear HG
        go_wp2_with (at_builtin; refine wpList_append_own _ rfl (.tmp 31) (.tmp 33) 22 rfl W1.heap.size 3 i0 _ 1 8 Try.underlying22 hi0 hza hzb hzc rfl (by decide) _ _ _ rfl (HI.out.alloc _) ⟨wr.heap.size, 0, none⟩ 1 1 [.int .i64 (a)] rfl rfl (cell_one_new _ _ _) (by simp [Value.oneCell']) (by unfold maxLen; omega) (by omega) (by have := HB.out.size; simp; omega) ?_)
        intro v' w8 hown' hgrow _
        have HF : Hid (w8.ownsRow W1.heap.size 3 1 v' (n - k) ((L.take (n - k)).map (Value.int .i64))) := by
          refine Lib.hid ?_
          rw [HS.out, List.map_append, List.map_take, hv]
          have e : n - (k + 1) + 1 = n - k := by omega
          rw [e] at hown'
          exact hown'
        have HG2 : Hid (Below W1.heap.size W1 w8) := (HB.out.alloc HB.out.size _).grown hgrow (by have := HB.out.size; simp; omega) (fun z e => (HI.out.lt z e).1)
        clear hown' hgrow
        go_wp2
        go_roundw
        case rel => exact ⟨k, (k : Int) - 1, by omega, rfl, rfl, HF, HG2⟩
        case measure => first | (simp [intOf]; done) | (simp [intOf]; omega)
      · subst hx
        have hv := HG.out
        rw [if_neg (by omega), if_neg (by omega)] at hv
        clear HG
        go_wp2_with (at_builtin; refine wpList_append_own _ rfl (.tmp 31) (.tmp 33) 22 rfl W1.heap.size 3 i0 _ 1 8 Try.underlying22 hi0 hza hzb hzc rfl (by decide) _ _ _ rfl (HI.out.alloc _) ⟨wr.heap.size, 0, none⟩ 1 1 [.int .i64 (0)] rfl rfl (cell_one_new _ _ _) (by simp [Value.oneCell']) (by unfold maxLen; omega) (by omega) (by have := HB.out.size; simp; omega) ?_)
        intro v' w8 hown' hgrow _
        have HF : Hid (w8.ownsRow W1.heap.size 3 1 v' (n - k) ((L.take (n - k)).map (Value.int .i64))) := by
          refine Lib.hid ?_
          rw [HS.out, List.map_append, List.map_take, hv]
          have e : n - (k + 1) + 1 = n - k := by omega
          rw [e] at hown'
          exact hown'
        have HG2 : Hid (Below W1.heap.size W1 w8) := (HB.out.alloc HB.out.size _).grown hgrow (by have := HB.out.size; simp; omega) (fun z e => (HI.out.lt z e).1)
        clear hown' hgrow
        go_wp2
        go_roundw
        case rel => exact ⟨k, (k : Int) - 1, by omega, rfl, rfl, HF, HG2⟩
        case measure => first | (simp [intOf]; done) | (simp [intOf]; omega)
      · have hx2 : ¬ 0 < x := by omega
        have hv := HG.out
        rw [if_neg hx2, if_pos hx] at hv
        clear HG
        go_wp2_with (at_builtin; refine wpList_append_own _ rfl (.tmp 31) (.tmp 33) 22 rfl W1.heap.size 3 i0 _ 1 8 Try.underlying22 hi0 hza hzb hzc rfl (by decide) _ _ _ rfl (HI.out.alloc _) ⟨wr.heap.size, 0, none⟩ 1 1 [.int .i64 (-a)] rfl rfl (cell_one_new _ _ _) (by simp [Value.oneCell']) (by unfold maxLen; omega) (by omega) (by have := HB.out.size; simp; omega) ?_)
        intro v' w8 hown' hgrow _
        have HF : Hid (w8.ownsRow W1.heap.size 3 1 v' (n - k) ((L.take (n - k)).map (Value.int .i64))) := by
          refine Lib.hid ?_
          rw [HS.out, List.map_append, List.map_take, hv]
          have e : n - (k + 1) + 1 = n - k := by omega
          rw [e] at hown'
          exact hown'
        have HG2 : Hid (Below W1.heap.size W1 w8) := (HB.out.alloc HB.out.size _).grown hgrow (by have := HB.out.size; simp; omega) (fun z e => (HI.out.lt z e).1)
        clear hown' hgrow
        go_wp2
        go_roundw
        case rel => exact ⟨k, (k : Int) - 1, by omega, rfl, rfl, HF, HG2⟩
        case measure => first | (simp [intOf]; done) | (simp [intOf]; omega)
    · obtain rfl : r = 0 := by omega
      obtain rfl : iv = -1 := by omega
      have hfi := HI.out
      rw [Nat.sub_zero, List.take_of_length_le (by have := HLL.out; omega)] at hfi
      have HFI := Lib.hid hfi
      clear hfi hlt hiv HI
      go_wp2
      go_ret
      exact ⟨⟨_, rfl, by rw [HLL.out]; exact ownMono HFI.out B0.out.size⟩, B0.out.trans (HB.out.mono B0.out.size)⟩

end Go.Proofs.Ytghpofhpkbgckaa


namespace Go.Proofs.Ytghpofhpkbgckaa
open Go.RowKit

theorem mo_D {cs : List Int} {b a : Int} (h : ¬ fltE cs b = 0) : moE cs b a = fltE cs b ∧ moN cs b a = 0 ∧ moD cs b a = 0 ∧ wiL cs b a = [] := by
  have e : moE cs b a = fltE cs b := by rw [moE, firstNZ2, if_neg h]
  exact ⟨e, by unfold moN; rw [e, if_neg h], by unfold moD; rw [e, if_neg h], by unfold wiL; rw [e, if_neg h]⟩
theorem mo_A {cs : List Int} {b a : Int} (h : fltE cs b = 0) (ha : ¬ ampE a = 0) : moE cs b a = ampE a ∧ moN cs b a = 0 ∧ moD cs b a = 0 ∧ wiL cs b a = [] := by
  have e : moE cs b a = ampE a := by rw [moE, firstNZ2, if_pos h]
  exact ⟨e, by unfold moN; rw [e, if_neg ha], by unfold moD; rw [e, if_neg ha], by unfold wiL; rw [e, if_neg ha]⟩
theorem mo_ok {cs : List Int} {b a : Int} (h : fltE cs b = 0) (ha : ampE a = 0) : moE cs b a = 0 ∧ moN cs b a = frN (absS cs cs.length * a) b ∧ moD cs b a = frD (absS cs cs.length * a) b ∧ wiL cs b a = wrst cs a := by
  have e : moE cs b a = 0 := by rw [moE, firstNZ2, if_pos h]; exact ha
  exact ⟨e, by unfold moN; rw [e, if_pos rfl], by unfold moD; rw [e, if_pos rfl], by unfold wiL; rw [e, if_pos rfl]⟩
theorem mo_to {cs L : List Int} {b a E x y : Int} {n k : Nat} (h : moE cs b a = E ∧ moN cs b a = x ∧ moD cs b a = y ∧ wiL cs b a = L) (hk : L.length = k) (hn : n ≤ 1000000) :
    (∀ A c W, RdI W A n cs → Calls Try.prog 33 #[.agg #[.slice A n c, .int .i64 b], .int .i64 a] W fun e w' => e = .returned (.tuple #[.agg #[.int .i64 x, .int .i64 y], .int .i64 E]) ∧ Below W.heap.size W w')
    ∧ (∀ A c W, RdI W A n cs → Calls Try.prog 34 #[.agg #[.slice A n c, .int .i64 b], .int .i64 a] W (RdRes W E k L)) := by
  obtain ⟨h1, h2, h3, h4⟩ := h
  refine ⟨fun A c W hr => ?_, fun A c W hr => ?_⟩
  · have := MaximumOutput_any A n c b cs a W hr hn
    rwa [h1, h2, h3] at this
  · refine (WorstInput_any A n c b cs a W hr hn).mono fun e w' ho => ?_
    rw [h1, h4] at ho
    exact ho.rd hk
set_option maxRecDepth 100000 in
set_option maxHeartbeats 4000000 in
theorem mxw_D (A : Option Addr) (n c : Nat) (b : Int) (cs : List Int) (a : Int) (w : World) (D : Int) (hD : ¬ D = 0) (hr : RdI w A n cs) (hn : n ≤ 10) (hA : A = none → n = 0 ∧ c = 0)
    (CMo : ∀ A' c' W, RdI W A' n cs → Calls Try.prog 33 #[.agg #[.slice A' n c', .int .i64 b], .int .i64 a] W fun e w' => e = .returned (.tuple #[.agg #[.int .i64 0, .int .i64 0], .int .i64 D]) ∧ Below W.heap.size W w')
    (CWo : ∀ A' c' W, RdI W A' n cs → Calls Try.prog 34 #[.agg #[.slice A' n c', .int .i64 b], .int .i64 a] W (RdRes W (D) 0 []))
    (CFe : ∀ W, RdI W A n cs → Calls Try.prog 30 #[.agg #[.slice A n c, .int .i64 b]] W fun e w' => e = .returned (.int .i64 D) ∧ Below W.heap.size W w')
    : Calls Try.prog 5 #[.agg #[.slice A n c, .int .i64 b], .int .i64 a] w fun e w' => e = .returned (.bool true) ∧ Below w.heap.size w w' := by
  have CCF : Hid (∀ W, RdI W A n cs → Calls Try.prog 29 #[.agg #[.slice A n c, .int .i64 b]] W (CpF W n b cs)) := fun W h => copyFilter_any A n c b cs W hA h (by omega)
  have CTp := Lib.hid (fun W => taps_any A n c b W)
  rw [decide_eq_true hn] at CTp
  have CMo := Lib.hid CMo
  have CWo := Lib.hid CWo
  have CFe := Lib.hid CFe
  have dD0 := neF hD
  have dD1 := neT hD
  clear hD
  have X0 := Lib.hid (hr.below (below1 w (.cells #[.slice A n c, .int .i64 b] 45)))
  have K0 := Lib.hid (Bk.new w 45 #[.slice A n c, .int .i64 b])
  have B0 := Lib.hid (below1 w (.cells #[.slice A n c, .int .i64 b] 45))
  clear hr hA
  go_enter Try.func5, Try.ntmps5
  go_wp2_with fail
  refine (awake_any _).mono ?_
  rintro e w1 ⟨rfl, hb⟩
  have X1 := Lib.hid (X0.out.below hb)
  have K1 := Lib.hid (K0.out.later hb)
  have B1 := Lib.hid (B0.out.trans (hb.mono B0.out.size))
  clear X0 K0 B0 hb
  obtain ⟨d0, d1⟩ := bkf2 K1.out
  go_wp2_with fail
  refine (CTp.out _).mono ?_
  rintro e w2 ⟨rfl, hb⟩
  have X2 := Lib.hid (X1.out.below hb)
  have K2 := Lib.hid (K1.out.later hb)
  have B2 := Lib.hid (B1.out.trans (hb.mono B1.out.size))
  clear X1 K1 B1 hb
  clear d0 d1
  obtain ⟨d0, d1⟩ := bkf2 K2.out
  go_wp2_with fail
  refine (CCF.out _ X2.out).mono ?_
  rintro e w3 ⟨⟨AFa, cFa, rfl, hrFa, hcFa, hNFa⟩, hb⟩
  have X3 := Lib.hid (X2.out.below hb)
  have K3 := Lib.hid (K2.out.later hb)
  have B3 := Lib.hid (B2.out.trans (hb.mono B2.out.size))
  clear X2 K2 B2 hb
  have Fa3 := Lib.hid hrFa
  have NFa := Lib.hid hNFa
  clear hrFa hcFa hNFa
  clear d0 d1
  go_wp2_with fail
  refine (CMo.out _ _ _ Fa3.out).mono ?_
  rintro e w4 ⟨rfl, hb⟩
  have X4 := Lib.hid (X3.out.below hb)
  have K4 := Lib.hid (K3.out.later hb)
  have B4 := Lib.hid (B3.out.trans (hb.mono B3.out.size))
  have Fa4 := Lib.hid (Fa3.out.below hb)
  clear X3 K3 B3 Fa3 hb
  have X5 := Lib.hid (X4.out.below (below1 w4 (.cells #[.int .i64 0, .int .i64 0] 28)))
  have K5 := Lib.hid (K4.out.alloc (.cells #[.int .i64 0, .int .i64 0] 28))
  have B5 := Lib.hid (B4.out.alloc B4.out.size (.cells #[.int .i64 0, .int .i64 0] 28))
  have Fa5 := Lib.hid (Fa4.out.below (below1 w4 (.cells #[.int .i64 0, .int .i64 0] 28)))
  clear X4 K4 B4 Fa4
  have M5 := Lib.hid (Bk.new w4 28 #[.int .i64 0, .int .i64 0])
  obtain ⟨d0, d1⟩ := bkf2 K5.out
  go_wp2_with fail
  refine (CCF.out _ X5.out).mono ?_
  rintro e w6 ⟨⟨AFb, cFb, rfl, hrFb, hcFb, hNFb⟩, hb⟩
  have X6 := Lib.hid (X5.out.below hb)
  have K6 := Lib.hid (K5.out.later hb)
  have B6 := Lib.hid (B5.out.trans (hb.mono B5.out.size))
  have Fa6 := Lib.hid (Fa5.out.below hb)
  have M6 := Lib.hid (M5.out.later hb)
  clear X5 K5 B5 Fa5 M5 hb
  have Fb6 := Lib.hid hrFb
  have NFb := Lib.hid hNFb
  clear hrFb hcFb hNFb
  clear d0 d1
  go_wp2_with fail
  refine (CWo.out _ _ _ Fb6.out).mono ?_
  rintro e w7 ⟨⟨AYa, cYa, rfl, hrYa⟩, hb⟩
  have X7 := Lib.hid (X6.out.below hb)
  have K7 := Lib.hid (K6.out.later hb)
  have B7 := Lib.hid (B6.out.trans (hb.mono B6.out.size))
  have Fa7 := Lib.hid (Fa6.out.below hb)
  have M7 := Lib.hid (M6.out.later hb)
  have Fb7 := Lib.hid (Fb6.out.below hb)
  clear X6 K6 B6 Fa6 M6 Fb6 hb
  have Ya7 := Lib.hid hrYa
  clear hrYa
  obtain ⟨d0, d1⟩ := bkf2 K7.out
  go_wp2_with fail
  refine (CFe.out _ X7.out).mono ?_
  rintro e w8 ⟨rfl, hb⟩
  have X8 := Lib.hid (X7.out.below hb)
  have K8 := Lib.hid (K7.out.later hb)
  have B8 := Lib.hid (B7.out.trans (hb.mono B7.out.size))
  have Fa8 := Lib.hid (Fa7.out.below hb)
  have M8 := Lib.hid (M7.out.later hb)
  have Fb8 := Lib.hid (Fb7.out.below hb)
  have Ya8 := Lib.hid (Ya7.out.below hb)
  clear X7 K7 B7 Fa7 M7 Fb7 Ya7 hb
  clear d0 d1
  obtain ⟨q0, q1, _, _⟩ := cell2 M8.out
  go_wp2
  go_ret
  exact ⟨by simp, B8.out⟩
set_option maxRecDepth 100000 in
set_option maxHeartbeats 4000000 in
theorem mxw_A (A : Option Addr) (n c : Nat) (b : Int) (cs : List Int) (a : Int) (w : World) (Am : Int) (hAm : ¬ Am = 0) (hr : RdI w A n cs) (hn : n ≤ 10) (hA : A = none → n = 0 ∧ c = 0)
    (CMo : ∀ A' c' W, RdI W A' n cs → Calls Try.prog 33 #[.agg #[.slice A' n c', .int .i64 b], .int .i64 a] W fun e w' => e = .returned (.tuple #[.agg #[.int .i64 0, .int .i64 0], .int .i64 Am]) ∧ Below W.heap.size W w')
    (CWo : ∀ A' c' W, RdI W A' n cs → Calls Try.prog 34 #[.agg #[.slice A' n c', .int .i64 b], .int .i64 a] W (RdRes W (Am) 0 []))
    (CFe : ∀ W, RdI W A n cs → Calls Try.prog 30 #[.agg #[.slice A n c, .int .i64 b]] W fun e w' => e = .returned (.int .i64 0) ∧ Below W.heap.size W w')
    (CAe : ∀ W, Calls Try.prog 35 #[.int .i64 a] W fun e w' => e = .returned (.int .i64 Am) ∧ W = w')
    : Calls Try.prog 5 #[.agg #[.slice A n c, .int .i64 b], .int .i64 a] w fun e w' => e = .returned (.bool true) ∧ Below w.heap.size w w' := by
  have CCF : Hid (∀ W, RdI W A n cs → Calls Try.prog 29 #[.agg #[.slice A n c, .int .i64 b]] W (CpF W n b cs)) := fun W h => copyFilter_any A n c b cs W hA h (by omega)
  have CTp := Lib.hid (fun W => taps_any A n c b W)
  rw [decide_eq_true hn] at CTp
  have CMo := Lib.hid CMo
  have CWo := Lib.hid CWo
  have CFe := Lib.hid CFe
  have CAe := Lib.hid CAe
  have dS0 := neF hAm
  have dS1 := neT hAm
  clear hAm
  have X0 := Lib.hid (hr.below (below1 w (.cells #[.slice A n c, .int .i64 b] 45)))
  have K0 := Lib.hid (Bk.new w 45 #[.slice A n c, .int .i64 b])
  have B0 := Lib.hid (below1 w (.cells #[.slice A n c, .int .i64 b] 45))
  clear hr hA
  go_enter Try.func5, Try.ntmps5
  go_wp2_with fail
  refine (awake_any _).mono ?_
  rintro e w1 ⟨rfl, hb⟩
  have X1 := Lib.hid (X0.out.below hb)
  have K1 := Lib.hid (K0.out.later hb)
  have B1 := Lib.hid (B0.out.trans (hb.mono B0.out.size))
  clear X0 K0 B0 hb
  obtain ⟨d0, d1⟩ := bkf2 K1.out
  go_wp2_with fail
  refine (CTp.out _).mono ?_
  rintro e w2 ⟨rfl, hb⟩
  have X2 := Lib.hid (X1.out.below hb)
  have K2 := Lib.hid (K1.out.later hb)
  have B2 := Lib.hid (B1.out.trans (hb.mono B1.out.size))
  clear X1 K1 B1 hb
  clear d0 d1
  obtain ⟨d0, d1⟩ := bkf2 K2.out
  go_wp2_with fail
  refine (CCF.out _ X2.out).mono ?_
  rintro e w3 ⟨⟨AFa, cFa, rfl, hrFa, hcFa, hNFa⟩, hb⟩
  have X3 := Lib.hid (X2.out.below hb)
  have K3 := Lib.hid (K2.out.later hb)
  have B3 := Lib.hid (B2.out.trans (hb.mono B2.out.size))
  clear X2 K2 B2 hb
  have Fa3 := Lib.hid hrFa
  have NFa := Lib.hid hNFa
  clear hrFa hcFa hNFa
  clear d0 d1
  go_wp2_with fail
  refine (CMo.out _ _ _ Fa3.out).mono ?_
  rintro e w4 ⟨rfl, hb⟩
  have X4 := Lib.hid (X3.out.below hb)
  have K4 := Lib.hid (K3.out.later hb)
  have B4 := Lib.hid (B3.out.trans (hb.mono B3.out.size))
  have Fa4 := Lib.hid (Fa3.out.below hb)
  clear X3 K3 B3 Fa3 hb
  have X5 := Lib.hid (X4.out.below (below1 w4 (.cells #[.int .i64 0, .int .i64 0] 28)))
  have K5 := Lib.hid (K4.out.alloc (.cells #[.int .i64 0, .int .i64 0] 28))
  have B5 := Lib.hid (B4.out.alloc B4.out.size (.cells #[.int .i64 0, .int .i64 0] 28))
  have Fa5 := Lib.hid (Fa4.out.below (below1 w4 (.cells #[.int .i64 0, .int .i64 0] 28)))
  clear X4 K4 B4 Fa4
  have M5 := Lib.hid (Bk.new w4 28 #[.int .i64 0, .int .i64 0])
  obtain ⟨d0, d1⟩ := bkf2 K5.out
  go_wp2_with fail
  refine (CCF.out _ X5.out).mono ?_
  rintro e w6 ⟨⟨AFb, cFb, rfl, hrFb, hcFb, hNFb⟩, hb⟩
  have X6 := Lib.hid (X5.out.below hb)
  have K6 := Lib.hid (K5.out.later hb)
  have B6 := Lib.hid (B5.out.trans (hb.mono B5.out.size))
  have Fa6 := Lib.hid (Fa5.out.below hb)
  have M6 := Lib.hid (M5.out.later hb)
  clear X5 K5 B5 Fa5 M5 hb
  have Fb6 := Lib.hid hrFb
  have NFb := Lib.hid hNFb
  clear hrFb hcFb hNFb
  clear d0 d1
  go_wp2_with fail
  refine (CWo.out _ _ _ Fb6.out).mono ?_
  rintro e w7 ⟨⟨AYa, cYa, rfl, hrYa⟩, hb⟩
  have X7 := Lib.hid (X6.out.below hb)
  have K7 := Lib.hid (K6.out.later hb)
  have B7 := Lib.hid (B6.out.trans (hb.mono B6.out.size))
  have Fa7 := Lib.hid (Fa6.out.below hb)
  have M7 := Lib.hid (M6.out.later hb)
  have Fb7 := Lib.hid (Fb6.out.below hb)
  clear X6 K6 B6 Fa6 M6 Fb6 hb
  have Ya7 := Lib.hid hrYa
  clear hrYa
  obtain ⟨d0, d1⟩ := bkf2 K7.out
  go_wp2_with fail
  refine (CFe.out _ X7.out).mono ?_
  rintro e w8 ⟨rfl, hb⟩
  have X8 := Lib.hid (X7.out.below hb)
  have K8 := Lib.hid (K7.out.later hb)
  have B8 := Lib.hid (B7.out.trans (hb.mono B7.out.size))
  have Fa8 := Lib.hid (Fa7.out.below hb)
  have M8 := Lib.hid (M7.out.later hb)
  have Fb8 := Lib.hid (Fb7.out.below hb)
  have Ya8 := Lib.hid (Ya7.out.below hb)
  clear X7 K7 B7 Fa7 M7 Fb7 Ya7 hb
  clear d0 d1
  go_wp2_with fail
  refine (CAe.out _).mono ?_
  rintro e w' ⟨rfl, rfl⟩
  obtain ⟨q0, q1, _, _⟩ := cell2 M8.out
  go_wp2
  go_ret
  exact ⟨by simp, B8.out⟩
set_option maxRecDepth 100000 in
set_option maxHeartbeats 4000000 in
theorem mxw_ok (A : Option Addr) (n c : Nat) (b : Int) (cs : List Int) (a : Int) (w : World) (x y : Int) (hr : RdI w A n cs) (hn : n ≤ 10) (hA : A = none → n = 0 ∧ c = 0)
    (CMo : ∀ A' c' W, RdI W A' n cs → Calls Try.prog 33 #[.agg #[.slice A' n c', .int .i64 b], .int .i64 a] W fun e w' => e = .returned (.tuple #[.agg #[.int .i64 x, .int .i64 y], .int .i64 0]) ∧ Below W.heap.size W w')
    (CWo : ∀ A' c' W, RdI W A' n cs → Calls Try.prog 34 #[.agg #[.slice A' n c', .int .i64 b], .int .i64 a] W (RdRes W (0) n (wrst cs a)))
    (CFe : ∀ W, RdI W A n cs → Calls Try.prog 30 #[.agg #[.slice A n c, .int .i64 b]] W fun e w' => e = .returned (.int .i64 0) ∧ Below W.heap.size W w')
    (CAe : ∀ W, Calls Try.prog 35 #[.int .i64 a] W fun e w' => e = .returned (.int .i64 0) ∧ W = w')
    (CRM : ∀ W, RdI W A n cs → Calls Try.prog 36 #[.agg #[.slice A n c, .int .i64 b], .int .i64 a] W fun e w' => e = .returned (.agg #[.int .i64 x, .int .i64 y]) ∧ Below W.heap.size W w')
    (CRW : ∀ W, RdI W A n cs → Calls Try.prog 37 #[.agg #[.slice A n c, .int .i64 b], .int .i64 a] W (RdOne W n (wrst cs a)))
    : Calls Try.prog 5 #[.agg #[.slice A n c, .int .i64 b], .int .i64 a] w fun e w' => e = .returned (.bool true) ∧ Below w.heap.size w w' := by
  have CCF : Hid (∀ W, RdI W A n cs → Calls Try.prog 29 #[.agg #[.slice A n c, .int .i64 b]] W (CpF W n b cs)) := fun W h => copyFilter_any A n c b cs W hA h (by omega)
  have CTp := Lib.hid (fun W => taps_any A n c b W)
  rw [decide_eq_true hn] at CTp
  have CMo := Lib.hid CMo
  have CWo := Lib.hid CWo
  have CFe := Lib.hid CFe
  have CAe := Lib.hid CAe
  have CRM := Lib.hid CRM
  have CRW := Lib.hid CRW
  have X0 := Lib.hid (hr.below (below1 w (.cells #[.slice A n c, .int .i64 b] 45)))
  have K0 := Lib.hid (Bk.new w 45 #[.slice A n c, .int .i64 b])
  have B0 := Lib.hid (below1 w (.cells #[.slice A n c, .int .i64 b] 45))
  clear hr hA
  go_enter Try.func5, Try.ntmps5
  go_wp2_with fail
  refine (awake_any _).mono ?_
  rintro e w1 ⟨rfl, hb⟩
  have X1 := Lib.hid (X0.out.below hb)
  have K1 := Lib.hid (K0.out.later hb)
  have B1 := Lib.hid (B0.out.trans (hb.mono B0.out.size))
  clear X0 K0 B0 hb
  obtain ⟨d0, d1⟩ := bkf2 K1.out
  go_wp2_with fail
  refine (CTp.out _).mono ?_
  rintro e w2 ⟨rfl, hb⟩
  have X2 := Lib.hid (X1.out.below hb)
  have K2 := Lib.hid (K1.out.later hb)
  have B2 := Lib.hid (B1.out.trans (hb.mono B1.out.size))
  clear X1 K1 B1 hb
  clear d0 d1
  obtain ⟨d0, d1⟩ := bkf2 K2.out
  go_wp2_with fail
  refine (CCF.out _ X2.out).mono ?_
  rintro e w3 ⟨⟨AFa, cFa, rfl, hrFa, hcFa, hNFa⟩, hb⟩
  have X3 := Lib.hid (X2.out.below hb)
  have K3 := Lib.hid (K2.out.later hb)
  have B3 := Lib.hid (B2.out.trans (hb.mono B2.out.size))
  clear X2 K2 B2 hb
  have Fa3 := Lib.hid hrFa
  have NFa := Lib.hid hNFa
  clear hrFa hcFa hNFa
  clear d0 d1
  go_wp2_with fail
  refine (CMo.out _ _ _ Fa3.out).mono ?_
  rintro e w4 ⟨rfl, hb⟩
  have X4 := Lib.hid (X3.out.below hb)
  have K4 := Lib.hid (K3.out.later hb)
  have B4 := Lib.hid (B3.out.trans (hb.mono B3.out.size))
  have Fa4 := Lib.hid (Fa3.out.below hb)
  clear X3 K3 B3 Fa3 hb
  have X5 := Lib.hid (X4.out.below (below1 w4 (.cells #[.int .i64 x, .int .i64 y] 28)))
  have K5 := Lib.hid (K4.out.alloc (.cells #[.int .i64 x, .int .i64 y] 28))
  have B5 := Lib.hid (B4.out.alloc B4.out.size (.cells #[.int .i64 x, .int .i64 y] 28))
  have Fa5 := Lib.hid (Fa4.out.below (below1 w4 (.cells #[.int .i64 x, .int .i64 y] 28)))
  clear X4 K4 B4 Fa4
  have M5 := Lib.hid (Bk.new w4 28 #[.int .i64 x, .int .i64 y])
  obtain ⟨d0, d1⟩ := bkf2 K5.out
  go_wp2_with fail
  refine (CCF.out _ X5.out).mono ?_
  rintro e w6 ⟨⟨AFb, cFb, rfl, hrFb, hcFb, hNFb⟩, hb⟩
  have X6 := Lib.hid (X5.out.below hb)
  have K6 := Lib.hid (K5.out.later hb)
  have B6 := Lib.hid (B5.out.trans (hb.mono B5.out.size))
  have Fa6 := Lib.hid (Fa5.out.below hb)
  have M6 := Lib.hid (M5.out.later hb)
  clear X5 K5 B5 Fa5 M5 hb
  have Fb6 := Lib.hid hrFb
  have NFb := Lib.hid hNFb
  clear hrFb hcFb hNFb
  clear d0 d1
  go_wp2_with fail
  refine (CWo.out _ _ _ Fb6.out).mono ?_
  rintro e w7 ⟨⟨AYa, cYa, rfl, hrYa⟩, hb⟩
  have X7 := Lib.hid (X6.out.below hb)
  have K7 := Lib.hid (K6.out.later hb)
  have B7 := Lib.hid (B6.out.trans (hb.mono B6.out.size))
  have Fa7 := Lib.hid (Fa6.out.below hb)
  have M7 := Lib.hid (M6.out.later hb)
  have Fb7 := Lib.hid (Fb6.out.below hb)
  clear X6 K6 B6 Fa6 M6 Fb6 hb
  have Ya7 := Lib.hid hrYa
  clear hrYa
  obtain ⟨d0, d1⟩ := bkf2 K7.out
  go_wp2_with fail
  refine (CFe.out _ X7.out).mono ?_
  rintro e w8 ⟨rfl, hb⟩
  have X8 := Lib.hid (X7.out.below hb)
  have K8 := Lib.hid (K7.out.later hb)
  have B8 := Lib.hid (B7.out.trans (hb.mono B7.out.size))
  have Fa8 := Lib.hid (Fa7.out.below hb)
  have M8 := Lib.hid (M7.out.later hb)
  have Fb8 := Lib.hid (Fb7.out.below hb)
  have Ya8 := Lib.hid (Ya7.out.below hb)
  clear X7 K7 B7 Fa7 M7 Fb7 Ya7 hb
  clear d0 d1
  go_wp2_with fail
  refine (CAe.out _).mono ?_
  rintro e w' ⟨rfl, rfl⟩
  obtain ⟨q0, q1, _, _⟩ := cell2 M8.out
  obtain ⟨d0, d1⟩ := bkf2 K8.out
  go_wp2
  go_region_held3 (fun w' : World => (w'.cell? ⟨w4.heap.size, 0, none⟩ = some (.int .i64 x) ∧ w'.cell? ⟨w4.heap.size, 1, none⟩ = some (.int .i64 y)) ∧ w'.cell? ⟨w.heap.size, 0, none⟩ = some (.slice A n c) ∧ w'.cell? ⟨w.heap.size, 1, none⟩ = some (.int .i64 b)) ((go_split_ands; simp [go_sem, *])) (first
    | (go_at_call 36; refine (CRM.out _ X8.out.drew).mono ?_; rintro e wq ⟨rfl, hbq⟩; have Kq := (K8.out.drew).later hbq; have Mq := (M8.out.drew).later hbq; obtain ⟨d0, d1⟩ := bkf2 Kq; obtain ⟨q0, q1, _, _⟩ := cell2 Mq)
    | (go_at_call 37; refine (CRW.out _ (X8.out.drew.below hbq)).mono ?_; rintro e wp ⟨⟨Az, cz, rfl, hrz⟩, hbp⟩; have Kp := Kq.later hbp; have Mp := Mq.later hbp; obtain ⟨d0, d1⟩ := bkf2 Kp; obtain ⟨q0, q1, _, _⟩ := cell2 Mp)
    | (go_at_call 21; refine (ints_same _ _ _ _ _ _ _ ((Ya8.out.drew.below hbq).below hbp) hrz (by omega)).mono ?_; rintro e wz ⟨rfl, kk, rfl⟩; obtain ⟨d0, d1⟩ := bkf2 (Kp.drewN kk); obtain ⟨q0, q1, _, _⟩ := cell2 (Mp.drewN kk)))
  all_goals
    have hb := belowDrewN (B8.out.drew.trans ((hbq.trans (hbp.mono hbq.size)).mono B8.out.drew.size)) kk
    go_wp2
    go_ret
    exact ⟨by simp, hb⟩
set_option maxRecDepth 100000 in
set_option maxHeartbeats 4000000 in
theorem mxw_far (A : Option Addr) (n c : Nat) (b : Int) (a : Int) (w : World) (hn : ¬ n ≤ 10)
    : Calls Try.prog 5 #[.agg #[.slice A n c, .int .i64 b], .int .i64 a] w fun e w' => e = .returned (.bool true) ∧ Below w.heap.size w w' := by
  have CTp := Lib.hid (fun W => taps_any A n c b W)
  rw [decide_eq_false hn] at CTp
  clear hn
  have K0 := Lib.hid (Bk.new w 45 #[.slice A n c, .int .i64 b])
  have B0 := Lib.hid (below1 w (.cells #[.slice A n c, .int .i64 b] 45))
  go_enter Try.func5, Try.ntmps5
  go_wp2_with fail
  refine (awake_any _).mono ?_
  rintro e w1 ⟨rfl, hb⟩
  have K1 := Lib.hid (K0.out.later hb)
  have B1 := Lib.hid (B0.out.trans (hb.mono B0.out.size))
  clear K0 B0 hb
  obtain ⟨d0, d1⟩ := bkf2 K1.out
  go_wp2_with fail
  refine (CTp.out _).mono ?_
  rintro e w2 ⟨rfl, hb⟩
  have K2 := Lib.hid (K1.out.later hb)
  have B2 := Lib.hid (B1.out.trans (hb.mono B1.out.size))
  clear K1 B1 hb
  clear d0 d1
  go_wp2
  go_ret
  exact ⟨by simp, B2.out⟩
theorem maxima_walk (A : Option Addr) (n c : Nat) (b : Int) (cs : List Int) (a : Int) (w : World) (hr : RdI w A n cs) (hn0 : n ≤ 9223372036854775807) (hA : A = none → n = 0 ∧ c = 0) :
    Calls Try.prog 5 #[.agg #[.slice A n c, .int .i64 b], .int .i64 a] w fun e w' => e = .returned (.bool true) ∧ Below w.heap.size w w' := by
  by_cases hn : n ≤ 10
  rotate_left
  · exact mxw_far A n c b a w hn
  have CFe := fun W (h : RdI W A n cs) => refFilterErr_any A n c b cs W h (by omega)
  have CAe := fun W => refAmplitudeErr_any a W
  by_cases hD : fltE cs b = 0
  rotate_left
  · obtain ⟨C1, C2⟩ := mo_to (n := n) (mo_D (a := a) hD) rfl (by omega)
    exact mxw_D A n c b cs a w _ hD hr hn hA C1 C2 CFe
  rw [hD] at CFe
  by_cases hS : ampE a = 0
  rotate_left
  · obtain ⟨C1, C2⟩ := mo_to (n := n) (mo_A hD hS) rfl (by omega)
    exact mxw_A A n c b cs a w _ hS hr hn hA C1 C2 CFe CAe
  rw [hS] at CAe
  have hl : (wrst cs a).length = n := (wrst_len cs a).trans hr.1
  obtain ⟨C1, C2⟩ := mo_to (n := n) (mo_ok hD hS) hl (by omega)
  have ha := ampE_zero hS
  have CRM := fun W (h : RdI W A n cs) => refMaximumOutput_any A n c b cs a W h (fltE_zero hD) ha
  rw [hr.1] at C1
  have h8 := (fltE_zero hD).1.2
  exact mxw_ok A n c b cs a w _ _ hr hn hA C1 C2 CFe CAe CRM (fun W h => (refWorstInput_any A n c b cs a W h (by have := hr.1; omega) ha).mono fun e w' ho => ho.rd hl)

end Go.Proofs.Ytghpofhpkbgckaa

