import Derived.Test.YtghpofhpkbgckaaE52

namespace Go.Proofs.Ytghpofhpkbgckaa
open Go.RowKit

/-- The greatest size of numbers. -/
def mxA : List Int → Int → Int
  | [], m => m
  | x :: l, m => mxA l (if m < absF x then absF x else m)
theorem mxA_step (xs : List Int) (k : Nat) (m : Int) (hk : k < xs.length) : mxA (xs.drop k) m = mxA (xs.drop (k + 1)) (if m < absF (xs.getD k 0) then absF (xs.getD k 0) else m) := by
  rw [List.drop_eq_getElem_cons hk]
  simp only [mxA, List.getD_eq_getElem?_getD, List.getElem?_eq_getElem hk, Option.getD_some]
theorem mxA_ge : ∀ (xs : List Int) (m : Int), m ≤ mxA xs m ∧ ∀ x ∈ xs, absF x ≤ mxA xs m
  | [], m => ⟨Int.le_refl _, by simp⟩
  | x :: l, m => by
    have h := mxA_ge l (if m < absF x then absF x else m)
    have h1 : m ≤ (if m < absF x then absF x else m) ∧ absF x ≤ (if m < absF x then absF x else m) := by split <;> omega
    refine ⟨Int.le_trans h1.1 h.1, fun y hy => ?_⟩
    rcases List.mem_cons.1 hy with rfl | hy
    · exact Int.le_trans h1.2 h.1
    · exact h.2 y hy
theorem mxA_le {B : Int} : ∀ (xs : List Int) (m : Int), m ≤ B → (∀ x ∈ xs, absF x ≤ B) → mxA xs m ≤ B
  | [], m, h, _ => h
  | x :: l, m, h, hx => by
    refine mxA_le l _ ?_ (fun y hy => hx y (List.mem_cons_of_mem _ hy))
    have := hx x List.mem_cons_self
    split <;> omega
set_option maxRecDepth 100000 in
set_option maxHeartbeats 4000000 in
theorem bdw_open (f s d : Int) (A : Option Addr) (n c : Nat) (xs : List Int) (w : World) (hok : EqOk f s d) (mo : Int) (hmo : mxA xs 0 = mo) (hst : d ≤ strF f s) (hr : RdI w A n xs) (hxs : ∀ x ∈ xs, -32767 ≤ x ∧ x ≤ 32767) (hn : n ≤ 64) (hA : A = none → n = 0 ∧ c = 0)
    (CQ : ∀ W, Calls Try.prog 48 #[.agg #[.int .i64 f, .int .i64 s, .int .i64 d]] W fun e w' => e = .returned (.int .i64 0) ∧ Below W.heap.size W w')
    (CSg : ∀ W, RdI W A n xs → Calls Try.prog 19 #[.slice A n c] W fun e w' => e = .returned (.int .i64 0) ∧ W = w')
    (CSt : ∀ W, Calls Try.prog 54 #[.agg #[.int .i64 f, .int .i64 s, .int .i64 d], .int .i64 mo] W fun e w' => e = .returned (.tuple #[.int .i64 0, .int .i64 22]) ∧ Below W.heap.size W w')
    : Calls Try.prog 10 #[.agg #[.int .i64 f, .int .i64 s, .int .i64 d], .slice A n c] w fun e w' => e = .returned (.bool true) ∧ Below w.heap.size w w' := by
  have CC : Hid (∀ W, Below w.heap.size w W → Calls Try.prog 18 #[.slice A n c] W (OwnS W xs)) := fun W hb => copyInts_any A n c xs W hA (hr.below hb) (by omega)
  have CCL : Hid (xs.length = n) := hr.1
  have CQ := Lib.hid CQ
  have CSg := Lib.hid CSg
  have CSt := Lib.hid CSt
  have HXS := Lib.hid (fun k => getD_bd (xs := xs) (A := 32767) (by omega) hxs k)
  have HMO := Lib.hid hmo
  have hf1 := absF_bd f 1000 hok.1
  have hs1 := absF_bd s 1000 hok.2.1
  have CF := Lib.hid (fun w => bsize_any f w (by have := hok.1; omega))
  have CG := Lib.hid (fun w => bsize_any s w (by have := hok.2.1; omega))
  unfold strF at hst
  obtain ⟨fa, hfa⟩ : ∃ z, absF f = z := ⟨_, rfl⟩
  obtain ⟨sa, hsa⟩ : ∃ z, absF s = z := ⟨_, rfl⟩
  rw [hfa] at hf1 CF hst
  rw [hsa] at hs1 CG hst
  clear hfa hsa hok hxs hmo
  have wfs : IntKind.i64.wrap (fa + sa) = fa + sa := IntWalk.i64_in _ (by omega)
  have hst2 : d ≤ fa + sa := by omega
  have h64 : ¬ (64 : Int) < (n : Int) := by omega
  have hnI : n ≤ 9223372036854775806 := by omega
  have X0 := Lib.hid (hr.below (below1 w (.cells #[.int .i64 f, .int .i64 s, .int .i64 d] 68)))
  have K0 := Lib.hid (Bk.new w 68 #[.int .i64 f, .int .i64 s, .int .i64 d])
  have B0 := Lib.hid (below1 w (.cells #[.int .i64 f, .int .i64 s, .int .i64 d] 68))
  clear hr hA
  go_enter Try.func10, Try.ntmps10
  go_wp2_with fail
  refine (awake_any _).mono ?_
  rintro e w1 ⟨rfl, hb⟩
  have X1 := Lib.hid (X0.out.below hb)
  have K1 := Lib.hid (K0.out.later hb)
  have B1 := Lib.hid (B0.out.trans (hb.mono B0.out.size))
  clear X0 K0 B0 hb
  obtain ⟨d0, d1, d2⟩ := bk3 K1.out
  go_wp2_with fail
  refine (CQ.out _).mono ?_
  rintro e w2 ⟨rfl, hb⟩
  have X2 := Lib.hid (X1.out.below hb)
  have K2 := Lib.hid (K1.out.later hb)
  have B2 := Lib.hid (B1.out.trans (hb.mono B1.out.size))
  clear X1 K1 B1 hb
  clear d0 d1 d2
  go_wp2_with fail
  refine (CSg.out _ X2.out).mono ?_
  rintro e w' ⟨rfl, rfl⟩
  go_wp2
  go_loop [5, 6] (fun m i => ∃ (k : Nat) (z : Int), k ≤ n ∧ i = .int .i64 k ∧ m = .int .i64 z ∧ (0 ≤ z ∧ z ≤ 32767) ∧ Hid (mxA xs 0 = mxA (xs.drop k) z)) (fun _ i => n - (intOf i).toNat)
  case atStart => exact ⟨0, 0, Nat.zero_le _, rfl, rfl, by omega, rfl⟩
  case round =>
    obtain ⟨k, z, hk, rfl, rfl, hz, HI⟩ := hrel
    by_cases hlt : k < n
    · obtain ⟨ad, rfl, hlt2, hc⟩ := X2.out.2 (by omega)
      have hck := hc k hlt
      have hxb := HXS.out k
      have hs := mxA_step xs k z (by have := CCL.out; omega)
      obtain ⟨x, hx⟩ : ∃ x, xs.getD k 0 = x := ⟨_, rfl⟩
      rw [hx] at hck hxb hs
      have ha := absF_bd x 32767 hxb
      have CZ := Lib.hid (fun w => bsize_any x w (by omega))
      obtain ⟨y, hy⟩ : ∃ y, absF x = y := ⟨_, rfl⟩
      rw [hy] at ha CZ hs
      have hkI : (k : Int) < (n : Int) := by omega
      clear hc hx hy
      by_cases hm : z < y
      · rw [if_pos hm] at hs
        have HS := Lib.hid hs
        clear hs
        go_wp2_with fail
        refine (CZ.out _).mono ?_
        rintro e w' ⟨rfl, rfl⟩
        go_wp2
        go_round
        case rel => exact ⟨k + 1, y, by omega, by go_num, by simp [hm], by omega, by show _ = _; rw [HI.out, HS.out]⟩
        case measure => simp [intOf]; omega
      · rw [if_neg hm] at hs
        have HS := Lib.hid hs
        clear hs
        go_wp2_with fail
        refine (CZ.out _).mono ?_
        rintro e w' ⟨rfl, rfl⟩
        go_wp2
        go_round
        case rel => exact ⟨k + 1, z, by omega, by go_num, by simp [hm], by omega, by show _ = _; rw [HI.out, HS.out]⟩
        case measure => simp [intOf]; omega
    · obtain rfl : n = k := by omega
      have hzm : z = mo := by
        have := HI.out
        rw [List.drop_eq_nil_of_le (by have := CCL.out; omega), HMO.out] at this
        exact this.symm
      subst hzm
      have hkI : ¬ (n : Int) < (n : Int) := by omega
      clear HI hlt
      obtain ⟨d0, d1, d2⟩ := bk3 K2.out
      go_wp2_with fail
      refine (CSt.out _).mono ?_
      rintro e w3 ⟨rfl, hb⟩
      have X3 := Lib.hid (X2.out.below hb)
      have K3 := Lib.hid (K2.out.later hb)
      have B3 := Lib.hid (B2.out.trans (hb.mono B2.out.size))
      clear X2 K2 B2 hb
      clear d0 d1 d2
      obtain ⟨d0, d1, d2⟩ := bk3 K3.out
      go_wp2
      go_quiet ((first | (go_at_call 38; exact quietP (CF.out _)) | (go_at_call 38; exact quietP (CG.out _))))
      clear d0 d1 d2
      have X4 := Lib.hid (X3.out.drewN nq)
      have K4 := Lib.hid (K3.out.drewN nq)
      have B4 := Lib.hid (belowDrewN B3.out nq)
      clear X3 K3 B3
      obtain ⟨w4, hw4⟩ : ∃ W, w3.drewN nq = W := ⟨_, rfl⟩
      rw [hw4] at X4 K4 B4 ⊢
      clear hw4
      go_wp2
      go_ret
      exact ⟨by simp, B4.out⟩

set_option maxRecDepth 100000 in
set_option maxHeartbeats 4000000 in
theorem bdw_pos (f s d : Int) (A : Option Addr) (n c : Nat) (xs : List Int) (w : World) (hok : EqOk f s d) (mo : Int) (hmo : mxA xs 0 = mo) (b : Int) (hb0 : 0 < b ∧ b ≤ 1000000000000000) (ys : List Int) (hyl : ys.length = n) (hyb : ∀ y ∈ ys, -b ≤ y ∧ y ≤ b) (hst : strF f s < d) (hr : RdI w A n xs) (hxs : ∀ x ∈ xs, -32767 ≤ x ∧ x ≤ 32767) (hn : n ≤ 64) (hA : A = none → n = 0 ∧ c = 0)
    (CQ : ∀ W, Calls Try.prog 48 #[.agg #[.int .i64 f, .int .i64 s, .int .i64 d]] W fun e w' => e = .returned (.int .i64 0) ∧ Below W.heap.size W w')
    (CSg : ∀ W, RdI W A n xs → Calls Try.prog 19 #[.slice A n c] W fun e w' => e = .returned (.int .i64 0) ∧ W = w')
    (CSt : ∀ W, Calls Try.prog 54 #[.agg #[.int .i64 f, .int .i64 s, .int .i64 d], .int .i64 mo] W fun e w' => e = .returned (.tuple #[.int .i64 b, .int .i64 0]) ∧ Below W.heap.size W w')
    (CB1 : ∀ W, Calls Try.prog 55 #[.agg #[.int .i64 f, .int .i64 s, .int .i64 d], .int .i64 mo, .int .i64 b] W fun e w' => e = .returned (.int .i64 0) ∧ Below W.heap.size W w')
    (CB2 : ∀ W, Calls Try.prog 55 #[.agg #[.int .i64 f, .int .i64 s, .int .i64 d], .int .i64 mo, .int .i64 (b - 1)] W fun e w' => e = .returned (.int .i64 19) ∧ Below W.heap.size W w')
    (CEx : ∀ B cb W, RdI W B n xs → Calls Try.prog 46 #[.agg #[.int .i64 f, .int .i64 s, .int .i64 d], .slice B n cb] W (RdResN W 0 n ys))
    : Calls Try.prog 10 #[.agg #[.int .i64 f, .int .i64 s, .int .i64 d], .slice A n c] w fun e w' => e = .returned (.bool true) ∧ Below w.heap.size w w' := by
  have CC : Hid (∀ W, Below w.heap.size w W → Calls Try.prog 18 #[.slice A n c] W (OwnS W xs)) := fun W hb => copyInts_any A n c xs W hA (hr.below hb) (by omega)
  have CCL : Hid (xs.length = n) := hr.1
  have CQ := Lib.hid CQ
  have CSg := Lib.hid CSg
  have CSt := Lib.hid CSt
  have CB1 := Lib.hid CB1
  have CB2 := Lib.hid CB2
  have CEx := Lib.hid CEx
  have HXS := Lib.hid (fun k => getD_bd (xs := xs) (A := 32767) (by omega) hxs k)
  have HMO := Lib.hid hmo
  have hf1 := absF_bd f 1000 hok.1
  have hs1 := absF_bd s 1000 hok.2.1
  have CF := Lib.hid (fun w => bsize_any f w (by have := hok.1; omega))
  have CG := Lib.hid (fun w => bsize_any s w (by have := hok.2.1; omega))
  unfold strF at hst
  obtain ⟨fa, hfa⟩ : ∃ z, absF f = z := ⟨_, rfl⟩
  obtain ⟨sa, hsa⟩ : ∃ z, absF s = z := ⟨_, rfl⟩
  rw [hfa] at hf1 CF hst
  rw [hsa] at hs1 CG hst
  clear hfa hsa hok hxs hmo
  have wfs : IntKind.i64.wrap (fa + sa) = fa + sa := IntWalk.i64_in _ (by omega)
  have hst2 : ¬ d ≤ fa + sa := by omega
  have CYL : Hid (ys.length = n) := hyl
  have HYB : Hid (∀ k, k < n → fromB (-b) b [ys.getD k 0] = true) := fun k hk => by
    rw [fromB_one]
    refine decide_eq_true (hyb _ ?_)
    rw [List.getD_eq_getElem?_getD, List.getElem?_eq_getElem (by omega)]
    exact List.getElem_mem _
  clear hyb hyl
  have CW1 := Lib.hid (fun w => within_any b 0 1000000000000000 w)
  rw [show fromB 0 1000000000000000 [b] = true by rw [fromB_one]; exact decide_eq_true (by omega)] at CW1
  have wb1 : IntKind.i64.wrap (b - 1) = b - 1 := IntWalk.i64_in _ (by omega)
  have wbn : IntKind.i64.wrap (-b) = -b := IntWalk.i64_in _ (by omega)
  have hb1 : 0 < b := hb0.1
  have h64 : ¬ (64 : Int) < (n : Int) := by omega
  have hnI : n ≤ 9223372036854775806 := by omega
  have X0 := Lib.hid (hr.below (below1 w (.cells #[.int .i64 f, .int .i64 s, .int .i64 d] 68)))
  have K0 := Lib.hid (Bk.new w 68 #[.int .i64 f, .int .i64 s, .int .i64 d])
  have B0 := Lib.hid (below1 w (.cells #[.int .i64 f, .int .i64 s, .int .i64 d] 68))
  clear hr hA
  go_enter Try.func10, Try.ntmps10
  go_wp2_with fail
  refine (awake_any _).mono ?_
  rintro e w1 ⟨rfl, hb⟩
  have X1 := Lib.hid (X0.out.below hb)
  have K1 := Lib.hid (K0.out.later hb)
  have B1 := Lib.hid (B0.out.trans (hb.mono B0.out.size))
  clear X0 K0 B0 hb
  obtain ⟨d0, d1, d2⟩ := bk3 K1.out
  go_wp2_with fail
  refine (CQ.out _).mono ?_
  rintro e w2 ⟨rfl, hb⟩
  have X2 := Lib.hid (X1.out.below hb)
  have K2 := Lib.hid (K1.out.later hb)
  have B2 := Lib.hid (B1.out.trans (hb.mono B1.out.size))
  clear X1 K1 B1 hb
  clear d0 d1 d2
  go_wp2_with fail
  refine (CSg.out _ X2.out).mono ?_
  rintro e w' ⟨rfl, rfl⟩
  go_wp2
  go_loop [5, 6] (fun m i => ∃ (k : Nat) (z : Int), k ≤ n ∧ i = .int .i64 k ∧ m = .int .i64 z ∧ (0 ≤ z ∧ z ≤ 32767) ∧ Hid (mxA xs 0 = mxA (xs.drop k) z)) (fun _ i => n - (intOf i).toNat)
  case atStart => exact ⟨0, 0, Nat.zero_le _, rfl, rfl, by omega, rfl⟩
  case round =>
    obtain ⟨k, z, hk, rfl, rfl, hz, HI⟩ := hrel
    by_cases hlt : k < n
    · obtain ⟨ad, rfl, hlt2, hc⟩ := X2.out.2 (by omega)
      have hck := hc k hlt
      have hxb := HXS.out k
      have hs := mxA_step xs k z (by have := CCL.out; omega)
      obtain ⟨x, hx⟩ : ∃ x, xs.getD k 0 = x := ⟨_, rfl⟩
      rw [hx] at hck hxb hs
      have ha := absF_bd x 32767 hxb
      have CZ := Lib.hid (fun w => bsize_any x w (by omega))
      obtain ⟨y, hy⟩ : ∃ y, absF x = y := ⟨_, rfl⟩
      rw [hy] at ha CZ hs
      have hkI : (k : Int) < (n : Int) := by omega
      clear hc hx hy
      by_cases hm : z < y
      · rw [if_pos hm] at hs
        have HS := Lib.hid hs
        clear hs
        go_wp2_with fail
        refine (CZ.out _).mono ?_
        rintro e w' ⟨rfl, rfl⟩
        go_wp2
        go_round
        case rel => exact ⟨k + 1, y, by omega, by go_num, by simp [hm], by omega, by show _ = _; rw [HI.out, HS.out]⟩
        case measure => simp [intOf]; omega
      · rw [if_neg hm] at hs
        have HS := Lib.hid hs
        clear hs
        go_wp2_with fail
        refine (CZ.out _).mono ?_
        rintro e w' ⟨rfl, rfl⟩
        go_wp2
        go_round
        case rel => exact ⟨k + 1, z, by omega, by go_num, by simp [hm], by omega, by show _ = _; rw [HI.out, HS.out]⟩
        case measure => simp [intOf]; omega
    · obtain rfl : n = k := by omega
      have hzm : z = mo := by
        have := HI.out
        rw [List.drop_eq_nil_of_le (by have := CCL.out; omega), HMO.out] at this
        exact this.symm
      subst hzm
      have hkI : ¬ (n : Int) < (n : Int) := by omega
      clear HI hlt
      obtain ⟨d0, d1, d2⟩ := bk3 K2.out
      go_wp2_with fail
      refine (CSt.out _).mono ?_
      rintro e w3 ⟨rfl, hb⟩
      have X3 := Lib.hid (X2.out.below hb)
      have K3 := Lib.hid (K2.out.later hb)
      have B3 := Lib.hid (B2.out.trans (hb.mono B2.out.size))
      clear X2 K2 B2 hb
      clear d0 d1 d2
      obtain ⟨d0, d1, d2⟩ := bk3 K3.out
      go_wp2
      go_quiet ((first | (go_at_call 38; exact quietP (CF.out _)) | (go_at_call 38; exact quietP (CG.out _))))
      clear d0 d1 d2
      have X4 := Lib.hid (X3.out.drewN nq)
      have K4 := Lib.hid (K3.out.drewN nq)
      have B4 := Lib.hid (belowDrewN B3.out nq)
      clear X3 K3 B3
      obtain ⟨w4, hw4⟩ : ∃ W, w3.drewN nq = W := ⟨_, rfl⟩
      rw [hw4] at X4 K4 B4 ⊢
      clear hw4
      go_wp2_with fail
      refine (CW1.out _).mono ?_
      rintro e w' ⟨rfl, rfl⟩
      obtain ⟨d0, d1, d2⟩ := bk3 K4.out
      go_wp2_with fail
      refine (CB1.out _).mono ?_
      rintro e w5 ⟨rfl, hb⟩
      have X5 := Lib.hid (X4.out.below hb)
      have K5 := Lib.hid (K4.out.later hb)
      have B5 := Lib.hid (B4.out.trans (hb.mono B4.out.size))
      clear X4 K4 B4 hb
      clear d0 d1 d2
      obtain ⟨d0, d1, d2⟩ := bk3 K5.out
      go_wp2_with fail
      refine (CB2.out _).mono ?_
      rintro e w6 ⟨rfl, hb⟩
      have X6 := Lib.hid (X5.out.below hb)
      have K6 := Lib.hid (K5.out.later hb)
      have B6 := Lib.hid (B5.out.trans (hb.mono B5.out.size))
      clear X5 K5 B5 hb
      clear d0 d1 d2
      obtain ⟨d0, d1, d2⟩ := bk3 K6.out
      go_wp2
      go_region_held3 (fun w' : World => w'.cell? ⟨w.heap.size, 0, none⟩ = some (.int .i64 f) ∧ w'.cell? ⟨w.heap.size, 1, none⟩ = some (.int .i64 s) ∧ w'.cell? ⟨w.heap.size, 2, none⟩ = some (.int .i64 d)) ((go_split_ands; simp [go_sem, *])) (first
        | (go_at_call 18; refine (CC.out _ B6.out.drew).mono ?_; rintro e wq ⟨⟨vq, rfl, hrowq⟩, hbq⟩; obtain ⟨Aq, cq, rfl, _, hrq⟩ := rd_of_own hrowq; have hxl := CCL.out; rw [hxl] at hrq ⊢; have Kq := (K6.out.drew).later hbq; obtain ⟨d0, d1, d2⟩ := bk3 Kq)
        | (go_at_call 46; refine (CEx.out Aq cq _ hrq).mono ?_; rintro e w7 ⟨⟨APy, cPy, rfl, hrPy, hcPy, hNPy⟩, hbp⟩; have Kp := Kq.later hbp; obtain ⟨d0, d1, d2⟩ := bk3 Kp))
      have hb : Below w6.drew.heap.size w6.drew w7 := hbq.trans (hbp.mono hbq.size)
      clear d0 d1 d2 hbq hbp Kq Kp hrq hrowq hxl
      have X7 := Lib.hid (X6.out.drew.below hb)
      have K7 := Lib.hid (K6.out.drew.later hb)
      have B7 := Lib.hid (B6.out.drew.trans (hb.mono B6.out.drew.size))
      clear hb X6 K6 B6
      have Py7 := Lib.hid hrPy
      have NPy := Lib.hid hNPy
      clear hrPy hNPy
      go_wp2
      go_loop [11] (fun i => ∃ k : Nat, k ≤ n ∧ i = .int .i64 k) (fun i => n - (intOf i).toNat)
      case atStart => exact ⟨0, Nat.zero_le _, rfl⟩
      case round =>
        obtain ⟨k, hk, rfl⟩ := hrel
        by_cases hlt : k < n
        · obtain ⟨ay, rfl, hlt2, hc⟩ := Py7.out.2 (by omega)
          have hck := hc k hlt
          have CY := Lib.hid (fun w => within_any (ys.getD k 0) (-b) b w)
          rw [HYB.out k hlt] at CY
          obtain ⟨y, hy⟩ : ∃ y, ys.getD k 0 = y := ⟨_, rfl⟩
          rw [hy] at hck CY
          have hkI : (k : Int) < (n : Int) := by omega
          clear hc hy
          go_wp2_with fail
          refine (CY.out _).mono ?_
          rintro e w' ⟨rfl, rfl⟩
          go_wp2
          go_round
          case rel => exact ⟨k + 1, by omega, by go_num⟩
          case measure => simp [intOf]; omega
        · obtain rfl : n = k := by omega
          have hkI : ¬ (n : Int) < (n : Int) := by omega
          clear hlt
          go_wp2
          go_ret
          exact ⟨by simp, B7.out⟩

set_option maxRecDepth 100000 in
set_option maxHeartbeats 4000000 in
theorem bdw_zero (f s d : Int) (A : Option Addr) (n c : Nat) (xs : List Int) (w : World) (hok : EqOk f s d) (mo : Int) (hmo : mxA xs 0 = mo) (ys : List Int) (hyl : ys.length = n) (hyb : ∀ y ∈ ys, -0 ≤ y ∧ y ≤ 0) (hst : strF f s < d) (hr : RdI w A n xs) (hxs : ∀ x ∈ xs, -32767 ≤ x ∧ x ≤ 32767) (hn : n ≤ 64) (hA : A = none → n = 0 ∧ c = 0)
    (CQ : ∀ W, Calls Try.prog 48 #[.agg #[.int .i64 f, .int .i64 s, .int .i64 d]] W fun e w' => e = .returned (.int .i64 0) ∧ Below W.heap.size W w')
    (CSg : ∀ W, RdI W A n xs → Calls Try.prog 19 #[.slice A n c] W fun e w' => e = .returned (.int .i64 0) ∧ W = w')
    (CSt : ∀ W, Calls Try.prog 54 #[.agg #[.int .i64 f, .int .i64 s, .int .i64 d], .int .i64 mo] W fun e w' => e = .returned (.tuple #[.int .i64 0, .int .i64 0]) ∧ Below W.heap.size W w')
    (CB1 : ∀ W, Calls Try.prog 55 #[.agg #[.int .i64 f, .int .i64 s, .int .i64 d], .int .i64 mo, .int .i64 0] W fun e w' => e = .returned (.int .i64 0) ∧ Below W.heap.size W w')
    (CEx : ∀ B cb W, RdI W B n xs → Calls Try.prog 46 #[.agg #[.int .i64 f, .int .i64 s, .int .i64 d], .slice B n cb] W (RdResN W 0 n ys))
    : Calls Try.prog 10 #[.agg #[.int .i64 f, .int .i64 s, .int .i64 d], .slice A n c] w fun e w' => e = .returned (.bool true) ∧ Below w.heap.size w w' := by
  have CC : Hid (∀ W, Below w.heap.size w W → Calls Try.prog 18 #[.slice A n c] W (OwnS W xs)) := fun W hb => copyInts_any A n c xs W hA (hr.below hb) (by omega)
  have CCL : Hid (xs.length = n) := hr.1
  have CQ := Lib.hid CQ
  have CSg := Lib.hid CSg
  have CSt := Lib.hid CSt
  have CB1 := Lib.hid CB1
  have CEx := Lib.hid CEx
  have HXS := Lib.hid (fun k => getD_bd (xs := xs) (A := 32767) (by omega) hxs k)
  have HMO := Lib.hid hmo
  have hf1 := absF_bd f 1000 hok.1
  have hs1 := absF_bd s 1000 hok.2.1
  have CF := Lib.hid (fun w => bsize_any f w (by have := hok.1; omega))
  have CG := Lib.hid (fun w => bsize_any s w (by have := hok.2.1; omega))
  unfold strF at hst
  obtain ⟨fa, hfa⟩ : ∃ z, absF f = z := ⟨_, rfl⟩
  obtain ⟨sa, hsa⟩ : ∃ z, absF s = z := ⟨_, rfl⟩
  rw [hfa] at hf1 CF hst
  rw [hsa] at hs1 CG hst
  clear hfa hsa hok hxs hmo
  have wfs : IntKind.i64.wrap (fa + sa) = fa + sa := IntWalk.i64_in _ (by omega)
  have hst2 : ¬ d ≤ fa + sa := by omega
  have CYL : Hid (ys.length = n) := hyl
  have HYB : Hid (∀ k, k < n → fromB (-0) 0 [ys.getD k 0] = true) := fun k hk => by
    rw [fromB_one]
    refine decide_eq_true (hyb _ ?_)
    rw [List.getD_eq_getElem?_getD, List.getElem?_eq_getElem (by omega)]
    exact List.getElem_mem _
  clear hyb hyl
  have CW1 := Lib.hid (fun w => within_any 0 0 1000000000000000 w)
  rw [show fromB 0 1000000000000000 [0] = true by decide] at CW1
  have h64 : ¬ (64 : Int) < (n : Int) := by omega
  have hnI : n ≤ 9223372036854775806 := by omega
  have X0 := Lib.hid (hr.below (below1 w (.cells #[.int .i64 f, .int .i64 s, .int .i64 d] 68)))
  have K0 := Lib.hid (Bk.new w 68 #[.int .i64 f, .int .i64 s, .int .i64 d])
  have B0 := Lib.hid (below1 w (.cells #[.int .i64 f, .int .i64 s, .int .i64 d] 68))
  clear hr hA
  go_enter Try.func10, Try.ntmps10
  go_wp2_with fail
  refine (awake_any _).mono ?_
  rintro e w1 ⟨rfl, hb⟩
  have X1 := Lib.hid (X0.out.below hb)
  have K1 := Lib.hid (K0.out.later hb)
  have B1 := Lib.hid (B0.out.trans (hb.mono B0.out.size))
  clear X0 K0 B0 hb
  obtain ⟨d0, d1, d2⟩ := bk3 K1.out
  go_wp2_with fail
  refine (CQ.out _).mono ?_
  rintro e w2 ⟨rfl, hb⟩
  have X2 := Lib.hid (X1.out.below hb)
  have K2 := Lib.hid (K1.out.later hb)
  have B2 := Lib.hid (B1.out.trans (hb.mono B1.out.size))
  clear X1 K1 B1 hb
  clear d0 d1 d2
  go_wp2_with fail
  refine (CSg.out _ X2.out).mono ?_
  rintro e w' ⟨rfl, rfl⟩
  go_wp2
  go_loop [5, 6] (fun m i => ∃ (k : Nat) (z : Int), k ≤ n ∧ i = .int .i64 k ∧ m = .int .i64 z ∧ (0 ≤ z ∧ z ≤ 32767) ∧ Hid (mxA xs 0 = mxA (xs.drop k) z)) (fun _ i => n - (intOf i).toNat)
  case atStart => exact ⟨0, 0, Nat.zero_le _, rfl, rfl, by omega, rfl⟩
  case round =>
    obtain ⟨k, z, hk, rfl, rfl, hz, HI⟩ := hrel
    by_cases hlt : k < n
    · obtain ⟨ad, rfl, hlt2, hc⟩ := X2.out.2 (by omega)
      have hck := hc k hlt
      have hxb := HXS.out k
      have hs := mxA_step xs k z (by have := CCL.out; omega)
      obtain ⟨x, hx⟩ : ∃ x, xs.getD k 0 = x := ⟨_, rfl⟩
      rw [hx] at hck hxb hs
      have ha := absF_bd x 32767 hxb
      have CZ := Lib.hid (fun w => bsize_any x w (by omega))
      obtain ⟨y, hy⟩ : ∃ y, absF x = y := ⟨_, rfl⟩
      rw [hy] at ha CZ hs
      have hkI : (k : Int) < (n : Int) := by omega
      clear hc hx hy
      by_cases hm : z < y
      · rw [if_pos hm] at hs
        have HS := Lib.hid hs
        clear hs
        go_wp2_with fail
        refine (CZ.out _).mono ?_
        rintro e w' ⟨rfl, rfl⟩
        go_wp2
        go_round
        case rel => exact ⟨k + 1, y, by omega, by go_num, by simp [hm], by omega, by show _ = _; rw [HI.out, HS.out]⟩
        case measure => simp [intOf]; omega
      · rw [if_neg hm] at hs
        have HS := Lib.hid hs
        clear hs
        go_wp2_with fail
        refine (CZ.out _).mono ?_
        rintro e w' ⟨rfl, rfl⟩
        go_wp2
        go_round
        case rel => exact ⟨k + 1, z, by omega, by go_num, by simp [hm], by omega, by show _ = _; rw [HI.out, HS.out]⟩
        case measure => simp [intOf]; omega
    · obtain rfl : n = k := by omega
      have hzm : z = mo := by
        have := HI.out
        rw [List.drop_eq_nil_of_le (by have := CCL.out; omega), HMO.out] at this
        exact this.symm
      subst hzm
      have hkI : ¬ (n : Int) < (n : Int) := by omega
      clear HI hlt
      obtain ⟨d0, d1, d2⟩ := bk3 K2.out
      go_wp2_with fail
      refine (CSt.out _).mono ?_
      rintro e w3 ⟨rfl, hb⟩
      have X3 := Lib.hid (X2.out.below hb)
      have K3 := Lib.hid (K2.out.later hb)
      have B3 := Lib.hid (B2.out.trans (hb.mono B2.out.size))
      clear X2 K2 B2 hb
      clear d0 d1 d2
      obtain ⟨d0, d1, d2⟩ := bk3 K3.out
      go_wp2
      go_quiet ((first | (go_at_call 38; exact quietP (CF.out _)) | (go_at_call 38; exact quietP (CG.out _))))
      clear d0 d1 d2
      have X4 := Lib.hid (X3.out.drewN nq)
      have K4 := Lib.hid (K3.out.drewN nq)
      have B4 := Lib.hid (belowDrewN B3.out nq)
      clear X3 K3 B3
      obtain ⟨w4, hw4⟩ : ∃ W, w3.drewN nq = W := ⟨_, rfl⟩
      rw [hw4] at X4 K4 B4 ⊢
      clear hw4
      go_wp2_with fail
      refine (CW1.out _).mono ?_
      rintro e w' ⟨rfl, rfl⟩
      obtain ⟨d0, d1, d2⟩ := bk3 K4.out
      go_wp2_with fail
      refine (CB1.out _).mono ?_
      rintro e w5 ⟨rfl, hb⟩
      have X5 := Lib.hid (X4.out.below hb)
      have K5 := Lib.hid (K4.out.later hb)
      have B5 := Lib.hid (B4.out.trans (hb.mono B4.out.size))
      clear X4 K4 B4 hb
      clear d0 d1 d2
      obtain ⟨d0, d1, d2⟩ := bk3 K5.out
      go_wp2
      go_region_held3 (fun w' : World => w'.cell? ⟨w.heap.size, 0, none⟩ = some (.int .i64 f) ∧ w'.cell? ⟨w.heap.size, 1, none⟩ = some (.int .i64 s) ∧ w'.cell? ⟨w.heap.size, 2, none⟩ = some (.int .i64 d)) ((go_split_ands; simp [go_sem, *])) (first
        | (go_at_call 18; refine (CC.out _ B5.out.drew).mono ?_; rintro e wq ⟨⟨vq, rfl, hrowq⟩, hbq⟩; obtain ⟨Aq, cq, rfl, _, hrq⟩ := rd_of_own hrowq; have hxl := CCL.out; rw [hxl] at hrq ⊢; have Kq := (K5.out.drew).later hbq; obtain ⟨d0, d1, d2⟩ := bk3 Kq)
        | (go_at_call 46; refine (CEx.out Aq cq _ hrq).mono ?_; rintro e w6 ⟨⟨APy, cPy, rfl, hrPy, hcPy, hNPy⟩, hbp⟩; have Kp := Kq.later hbp; obtain ⟨d0, d1, d2⟩ := bk3 Kp))
      have hb : Below w5.drew.heap.size w5.drew w6 := hbq.trans (hbp.mono hbq.size)
      clear d0 d1 d2 hbq hbp Kq Kp hrq hrowq hxl
      have X6 := Lib.hid (X5.out.drew.below hb)
      have K6 := Lib.hid (K5.out.drew.later hb)
      have B6 := Lib.hid (B5.out.drew.trans (hb.mono B5.out.drew.size))
      clear hb X5 K5 B5
      have Py6 := Lib.hid hrPy
      have NPy := Lib.hid hNPy
      clear hrPy hNPy
      go_wp2
      go_loop [11] (fun i => ∃ k : Nat, k ≤ n ∧ i = .int .i64 k) (fun i => n - (intOf i).toNat)
      case atStart => exact ⟨0, Nat.zero_le _, rfl⟩
      case round =>
        obtain ⟨k, hk, rfl⟩ := hrel
        by_cases hlt : k < n
        · obtain ⟨ay, rfl, hlt2, hc⟩ := Py6.out.2 (by omega)
          have hck := hc k hlt
          have CY := Lib.hid (fun w => within_any (ys.getD k 0) (-0) 0 w)
          rw [HYB.out k hlt] at CY
          obtain ⟨y, hy⟩ : ∃ y, ys.getD k 0 = y := ⟨_, rfl⟩
          rw [hy] at hck CY
          have hkI : (k : Int) < (n : Int) := by omega
          clear hc hy
          go_wp2_with fail
          refine (CY.out _).mono ?_
          rintro e w' ⟨rfl, rfl⟩
          go_wp2
          go_round
          case rel => exact ⟨k + 1, by omega, by go_num⟩
          case measure => simp [intOf]; omega
        · obtain rfl : n = k := by omega
          have hkI : ¬ (n : Int) < (n : Int) := by omega
          clear hlt
          go_wp2
          go_ret
          exact ⟨by simp, B6.out⟩

end Go.Proofs.Ytghpofhpkbgckaa
