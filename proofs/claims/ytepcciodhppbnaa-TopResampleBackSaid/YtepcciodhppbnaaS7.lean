import Derived.Test.YtepcciodhppbnaaE9

namespace Go.Proofs.Ytepcciodhppbnaa
open Go.RowKit

def remF (d f : Int) : Int := if d = 1 then f * (f - 64) else (f + 64) * f * (f - 64) * (f - 128)
def rdn (d : Int) : Int := if d = 1 then 8192 else 402653184
theorem rem_bd1 {f : Int} (h : 0 ≤ f ∧ f ≤ 63) : -76800000 ≤ f * (f - 64) ∧ f * (f - 64) ≤ 76800000 := by
  have := mulB (a := f) (b := f - 64) 64 64 (by omega) (by omega) (by omega) (by omega) 4096 (by omega)
  omega
theorem rem_bd3 {f : Int} (h : 0 ≤ f ∧ f ≤ 63) : -76800000 ≤ (f + 64) * f * (f - 64) * (f - 128) ∧ (f + 64) * f * (f - 64) * (f - 128) ≤ 76800000 := by
  obtain ⟨a1, a2, b1, b2, c1, c2, d1, d2, d3⟩ := prods h
  exact d3
def degfE (d f : Int) : Int := firstNZ [degE d, frcE f]
theorem degE_of1 : degE 1 = 0 := by unfold degE; simp
theorem degE_of3 : degE 3 = 0 := by unfold degE; simp
theorem degE_no {d : Int} (h1 : d ≠ 1) (h3 : d ≠ 3) : degE d = 15 := by unfold degE; rw [if_neg (by omega)]
theorem degfE_zero {d f : Int} (h : degfE d f = 0) : 0 ≤ f ∧ f ≤ 63 := rngE_zero (firstNZ_zero h (frcE f) (by simp))

def remN (d f : Int) : Int := if degfE d f = 0 then frN (remF d f) (rdn d) else 0
def remD (d f : Int) : Int := if degfE d f = 0 then frD (remF d f) (rdn d) else 0
theorem retA2 {a b c x y z : Int} (h : a = x) (k : b = y) (l : c = z) : Ending.returned (.tuple #[.agg #[.int .i64 a, .int .i64 b], .int .i64 c]) = Ending.returned (.tuple #[.agg #[.int .i64 x, .int .i64 y], .int .i64 z]) := by rw [h, k, l]
/-- The greatest remainder's size up to a fraction. -/
def mxR (d : Int) : Nat → Int
  | 0 => 0
  | k + 1 => max (mxR d k) (absF (remF d k))

end Go.Proofs.Ytepcciodhppbnaa


namespace Go.Proofs.Ytepcciodhppbnaa
open Go.RowKit

theorem absF_nonneg (n : Int) : 0 ≤ absF n := by unfold absF; split <;> omega
theorem remF_bd {d f : Int} (h : 0 ≤ f ∧ f ≤ 63) : -76800000 ≤ remF d f ∧ remF d f ≤ 76800000 := by
  unfold remF
  split
  · exact rem_bd1 h
  · exact rem_bd3 h
theorem mxR_bd (d : Int) : ∀ k : Nat, k ≤ 64 → 0 ≤ mxR d k ∧ mxR d k ≤ 76800000
  | 0, _ => by simp [mxR]
  | k + 1, h => by
    have ih := mxR_bd d k (by omega)
    have hb := absF_bd (remF d k) 76800000 (remF_bd (by omega))
    unfold mxR; omega

set_option maxRecDepth 100000 in
set_option maxHeartbeats 2000000 in
theorem MaximumRemainder1_any (w : World) :
    Calls Try.prog 60 #[.int .i64 1] w fun e w' => e = .returned (.tuple #[.agg #[.int .i64 (frN (mxR 1 64) 8192), .int .i64 (frD (mxR 1 64) 8192)], .int .i64 0]) ∧ Below w.heap.size w w' := by
  have C1 := Lib.hid (fun w => itpOf_1 w)
  unfold itp1 at C1
  go_enter Try.func60, Try.ntmps60
  go_wp2_with fail
  refine (C1.out _).mono ?_
  rintro e w1 ⟨rfl, hb1⟩
  have B1 := Lib.hid ((((Below.refl w.heap.size w).alloc (Nat.le_refl _) (.cells #[.int .i64 0, .int .i64 0] 57)).trans (hb1.mono (by simp))).alloc (by have := hb1.size; simp at this; omega) (.cells #[.int .i64 1, .int .i64 0, .int .i64 64, .func (.func 120) #[] #[], .int .i64 8192, .func (.func 121) #[] #[]] 112))
  have B0 := Lib.hid (((Below.refl w.heap.size w).alloc (Nat.le_refl _) (.cells #[.int .i64 0, .int .i64 0] 57)).trans (hb1.mono (by simp)))
  have K1 := Lib.hid (((Bk.new w 57 #[.int .i64 0, .int .i64 0]).later hb1).alloc (.cells #[.int .i64 1, .int .i64 0, .int .i64 64, .func (.func 120) #[] #[], .int .i64 8192, .func (.func 121) #[] #[]] 112))
  have KI1 := Lib.hid (Bk.new w1 112 #[.int .i64 1, .int .i64 0, .int .i64 64, .func (.func 120) #[] #[], .int .i64 8192, .func (.func 121) #[] #[]])
  have hz1 : w.heap.size < w1.heap.size := by have := hb1.size; simp at this; omega
  have hz2 : w1.heap.size < (w1.alloc (.cells #[.int .i64 1, .int .i64 0, .int .i64 64, .func (.func 120) #[] #[], .int .i64 8192, .func (.func 121) #[] #[]] 112)).heap.size := by simp
  clear hb1 C1
  go_wp2
  obtain ⟨W3, hW3⟩ : ∃ W3, w1.alloc (.cells #[.int .i64 1, .int .i64 0, .int .i64 64, .func (.func 120) #[] #[], .int .i64 8192, .func (.func 121) #[] #[]] 112) = W3 := ⟨_, rfl⟩
  rw [hW3] at K1 KI1 B1 hz2 ⊢
  clear hW3
  have CQ := Lib.hid (fun (f : Int) (h : 0 ≤ f ∧ f ≤ 63) w => rem1_any f w h)
  have CS := Lib.hid (fun (n : Int) w (h : -76800000 ≤ n ∧ n ≤ 76800000) => rsize_any n w (by omega))
  have HB := Lib.hid (fun k h => mxR_bd 1 k h)
  obtain ⟨q0, q1, q2, q3, q4, q5⟩ := bk6 KI1.out
  go_loop [6, 17] (fun s i => ∃ k : Nat, k ≤ 64 ∧ i = .int .i64 k ∧ s = .int .i64 (mxR 1 k)) (fun _ i => 64 - (intOf i).toNat)
  case atStart => exact ⟨0, by omega, rfl, rfl⟩
  case round =>
    obtain ⟨k, hk, rfl, rfl⟩ := hrel
    by_cases hlt : k < 64
    · have hkI : (k : Int) < 64 := by omega
      have hf : 0 ≤ (k : Int) ∧ (k : Int) ≤ 63 := by omega
      have CQk := Lib.hid (CQ.out k hf)
      have HS : Hid (mxR 1 (k + 1) = max (mxR 1 k) (absF (remF 1 k))) := rfl
      have hrb := remF_bd (d := 1) hf
      have HRF : Hid (remF 1 k = (k : Int) * ((k : Int) - 64)) := rfl
      rw [← HRF.out] at CQk
      obtain ⟨r, hr⟩ : ∃ r, remF 1 k = r := ⟨_, rfl⟩
      rw [hr] at CQk hrb HS
      clear hr HRF
      obtain ⟨s, hs⟩ : ∃ s, mxR 1 k = s := ⟨_, rfl⟩
      rw [hs] at HS ⊢
      clear hs
      have CSr := Lib.hid (fun w => CS.out r w hrb)
      obtain ⟨a, ha⟩ : ∃ a, absF r = a := ⟨_, rfl⟩
      rw [ha] at CSr HS
      clear ha
      obtain ⟨m, hm⟩ : ∃ m, (if s < a then a else s) = m := ⟨_, rfl⟩
      have HM : Hid (mxR 1 (k + 1) = m) := by show _ = _; rw [HS.out, ← hm]; split <;> omega
      clear HS
      go_wp2_with (first | (go_at_call 121; refine (CQk.out _).mono ?_; rintro e w' ⟨rfl, rfl⟩) | (go_at_call 76; refine (CSr.out _).mono ?_; rintro e w' ⟨rfl, rfl⟩))
      go_round
      case rel => exact ⟨k + 1, by omega, by go_num, by rw [HM.out]⟩
      case measure => simp [intOf]; omega
    · obtain rfl : k = 64 := by omega
      have hmb := HB.out 64 (by omega)
      have CFR := Lib.hid (fun w => fractionOf_any (mxR 1 64) 8192 w (by omega) (by omega))
      obtain ⟨m, hm⟩ : ∃ m, mxR 1 64 = m := ⟨_, rfl⟩
      rw [hm] at CFR hmb ⊢
      have HM := Lib.hid hm
      have HX : Hid (frN (mxR 1 64) 8192 = frN m 8192) := by show _ = _; rw [HM.out]
      have HY : Hid (frD (mxR 1 64) 8192 = frD m 8192) := by show _ = _; rw [HM.out]
      obtain ⟨x, hx⟩ : ∃ x, frN m 8192 = x := ⟨_, rfl⟩
      obtain ⟨y, hy⟩ : ∃ y, frD m 8192 = y := ⟨_, rfl⟩
      rw [hx] at CFR HX
      rw [hy] at CFR HY
      clear hx hy hm
      go_wp2_with fail
      refine (CFR.out _).mono ?_
      rintro e w3 ⟨rfl, hb3⟩
      have K5 : Hid (Bk w3 w.heap.size 57 #[.int .i64 0, .int .i64 0]) := K1.out.later hb3
      have e0 : w3.cell? ⟨w.heap.size, 0, none⟩ = some (.int .i64 0) := by rw [K5.out.cell]; rfl
      have e1 : w3.cell? ⟨w.heap.size, 1, none⟩ = some (.int .i64 0) := by rw [K5.out.cell]; rfl
      have k0 := K5.out.frozen 0
      have k1 := K5.out.frozen 1
      have BW := Lib.hid (B1.out.trans (hb3.mono B1.out.size))
      clear hb3
      go_wp2
      refine bodyPost_ret (v := .tuple #[.agg #[.int .i64 x, .int .i64 y], .int .i64 0]) (by simp [results, Try.results60, go_sem, e0, e1, k0, k1]) rfl ⟨?_, ?_⟩
      · exact retA2 HX.out.symm HY.out.symm rfl
      · have := BW.out
        go_grown

set_option maxRecDepth 100000 in
set_option maxHeartbeats 2000000 in
theorem MaximumRemainder3_any (w : World) :
    Calls Try.prog 60 #[.int .i64 3] w fun e w' => e = .returned (.tuple #[.agg #[.int .i64 (frN (mxR 3 64) 402653184), .int .i64 (frD (mxR 3 64) 402653184)], .int .i64 0]) ∧ Below w.heap.size w w' := by
  have C1 := Lib.hid (fun w => itpOf_3 w)
  unfold itp3 at C1
  go_enter Try.func60, Try.ntmps60
  go_wp2_with fail
  refine (C1.out _).mono ?_
  rintro e w1 ⟨rfl, hb1⟩
  have B1 := Lib.hid ((((Below.refl w.heap.size w).alloc (Nat.le_refl _) (.cells #[.int .i64 0, .int .i64 0] 57)).trans (hb1.mono (by simp))).alloc (by have := hb1.size; simp at this; omega) (.cells #[.int .i64 3, .int .i64 1, .int .i64 1572864, .func (.func 122) #[] #[], .int .i64 402653184, .func (.func 123) #[] #[]] 112))
  have B0 := Lib.hid (((Below.refl w.heap.size w).alloc (Nat.le_refl _) (.cells #[.int .i64 0, .int .i64 0] 57)).trans (hb1.mono (by simp)))
  have K1 := Lib.hid (((Bk.new w 57 #[.int .i64 0, .int .i64 0]).later hb1).alloc (.cells #[.int .i64 3, .int .i64 1, .int .i64 1572864, .func (.func 122) #[] #[], .int .i64 402653184, .func (.func 123) #[] #[]] 112))
  have KI1 := Lib.hid (Bk.new w1 112 #[.int .i64 3, .int .i64 1, .int .i64 1572864, .func (.func 122) #[] #[], .int .i64 402653184, .func (.func 123) #[] #[]])
  have hz1 : w.heap.size < w1.heap.size := by have := hb1.size; simp at this; omega
  have hz2 : w1.heap.size < (w1.alloc (.cells #[.int .i64 3, .int .i64 1, .int .i64 1572864, .func (.func 122) #[] #[], .int .i64 402653184, .func (.func 123) #[] #[]] 112)).heap.size := by simp
  clear hb1 C1
  go_wp2
  obtain ⟨W3, hW3⟩ : ∃ W3, w1.alloc (.cells #[.int .i64 3, .int .i64 1, .int .i64 1572864, .func (.func 122) #[] #[], .int .i64 402653184, .func (.func 123) #[] #[]] 112) = W3 := ⟨_, rfl⟩
  rw [hW3] at K1 KI1 B1 hz2 ⊢
  clear hW3
  have CQ := Lib.hid (fun (f : Int) (h : 0 ≤ f ∧ f ≤ 63) w => rem3_any f w h)
  have CS := Lib.hid (fun (n : Int) w (h : -76800000 ≤ n ∧ n ≤ 76800000) => rsize_any n w (by omega))
  have HB := Lib.hid (fun k h => mxR_bd 3 k h)
  obtain ⟨q0, q1, q2, q3, q4, q5⟩ := bk6 KI1.out
  go_loop [6, 17] (fun s i => ∃ k : Nat, k ≤ 64 ∧ i = .int .i64 k ∧ s = .int .i64 (mxR 3 k)) (fun _ i => 64 - (intOf i).toNat)
  case atStart => exact ⟨0, by omega, rfl, rfl⟩
  case round =>
    obtain ⟨k, hk, rfl, rfl⟩ := hrel
    by_cases hlt : k < 64
    · have hkI : (k : Int) < 64 := by omega
      have hf : 0 ≤ (k : Int) ∧ (k : Int) ≤ 63 := by omega
      have CQk := Lib.hid (CQ.out k hf)
      have HS : Hid (mxR 3 (k + 1) = max (mxR 3 k) (absF (remF 3 k))) := rfl
      have hrb := remF_bd (d := 3) hf
      have HRF : Hid (remF 3 k = ((k : Int) + 64) * k * ((k : Int) - 64) * ((k : Int) - 128)) := rfl
      rw [← HRF.out] at CQk
      obtain ⟨r, hr⟩ : ∃ r, remF 3 k = r := ⟨_, rfl⟩
      rw [hr] at CQk hrb HS
      clear hr HRF
      obtain ⟨s, hs⟩ : ∃ s, mxR 3 k = s := ⟨_, rfl⟩
      rw [hs] at HS ⊢
      clear hs
      have CSr := Lib.hid (fun w => CS.out r w hrb)
      obtain ⟨a, ha⟩ : ∃ a, absF r = a := ⟨_, rfl⟩
      rw [ha] at CSr HS
      clear ha
      obtain ⟨m, hm⟩ : ∃ m, (if s < a then a else s) = m := ⟨_, rfl⟩
      have HM : Hid (mxR 3 (k + 1) = m) := by show _ = _; rw [HS.out, ← hm]; split <;> omega
      clear HS
      go_wp2_with (first | (go_at_call 123; refine (CQk.out _).mono ?_; rintro e w' ⟨rfl, rfl⟩) | (go_at_call 76; refine (CSr.out _).mono ?_; rintro e w' ⟨rfl, rfl⟩))
      go_round
      case rel => exact ⟨k + 1, by omega, by go_num, by rw [HM.out]⟩
      case measure => simp [intOf]; omega
    · obtain rfl : k = 64 := by omega
      have hmb := HB.out 64 (by omega)
      have CFR := Lib.hid (fun w => fractionOf_any (mxR 3 64) 402653184 w (by omega) (by omega))
      obtain ⟨m, hm⟩ : ∃ m, mxR 3 64 = m := ⟨_, rfl⟩
      rw [hm] at CFR hmb ⊢
      have HM := Lib.hid hm
      have HX : Hid (frN (mxR 3 64) 402653184 = frN m 402653184) := by show _ = _; rw [HM.out]
      have HY : Hid (frD (mxR 3 64) 402653184 = frD m 402653184) := by show _ = _; rw [HM.out]
      obtain ⟨x, hx⟩ : ∃ x, frN m 402653184 = x := ⟨_, rfl⟩
      obtain ⟨y, hy⟩ : ∃ y, frD m 402653184 = y := ⟨_, rfl⟩
      rw [hx] at CFR HX
      rw [hy] at CFR HY
      clear hx hy hm
      go_wp2_with fail
      refine (CFR.out _).mono ?_
      rintro e w3 ⟨rfl, hb3⟩
      have K5 : Hid (Bk w3 w.heap.size 57 #[.int .i64 0, .int .i64 0]) := K1.out.later hb3
      have e0 : w3.cell? ⟨w.heap.size, 0, none⟩ = some (.int .i64 0) := by rw [K5.out.cell]; rfl
      have e1 : w3.cell? ⟨w.heap.size, 1, none⟩ = some (.int .i64 0) := by rw [K5.out.cell]; rfl
      have k0 := K5.out.frozen 0
      have k1 := K5.out.frozen 1
      have BW := Lib.hid (B1.out.trans (hb3.mono B1.out.size))
      clear hb3
      go_wp2
      refine bodyPost_ret (v := .tuple #[.agg #[.int .i64 x, .int .i64 y], .int .i64 0]) (by simp [results, Try.results60, go_sem, e0, e1, k0, k1]) rfl ⟨?_, ?_⟩
      · exact retA2 HX.out.symm HY.out.symm rfl
      · have := BW.out
        go_grown

set_option maxRecDepth 100000 in
set_option maxHeartbeats 2000000 in
theorem MaximumRemainder0_any (d : Int) (h1 : d ≠ 1) (h3 : d ≠ 3) (w : World) :
    Calls Try.prog 60 #[.int .i64 d] w fun e w' => e = .returned (.tuple #[.agg #[.int .i64 0, .int .i64 0], .int .i64 15]) ∧ Below w.heap.size w w' := by
  have C1 := Lib.hid (fun w => itpOf_no d w h1 h3)
  unfold itp0 at C1
  clear h1 h3
  go_enter Try.func60, Try.ntmps60
  go_wp2_with fail
  refine (C1.out _).mono ?_
  rintro e w1 ⟨rfl, hb1⟩
  have B1 := Lib.hid ((((Below.refl w.heap.size w).alloc (Nat.le_refl _) (.cells #[.int .i64 0, .int .i64 0] 57)).trans (hb1.mono (by simp))).alloc (by have := hb1.size; simp at this; omega) (.cells #[.int .i64 0, .int .i64 0, .int .i64 0, .nilFunc, .int .i64 0, .nilFunc] 112))
  have B0 := Lib.hid (((Below.refl w.heap.size w).alloc (Nat.le_refl _) (.cells #[.int .i64 0, .int .i64 0] 57)).trans (hb1.mono (by simp)))
  have K1 := Lib.hid (((Bk.new w 57 #[.int .i64 0, .int .i64 0]).later hb1).alloc (.cells #[.int .i64 0, .int .i64 0, .int .i64 0, .nilFunc, .int .i64 0, .nilFunc] 112))
  have KI1 := Lib.hid (Bk.new w1 112 #[.int .i64 0, .int .i64 0, .int .i64 0, .nilFunc, .int .i64 0, .nilFunc])
  have hz1 : w.heap.size < w1.heap.size := by have := hb1.size; simp at this; omega
  have hz2 : w1.heap.size < (w1.alloc (.cells #[.int .i64 0, .int .i64 0, .int .i64 0, .nilFunc, .int .i64 0, .nilFunc] 112)).heap.size := by simp
  clear hb1 C1
  have e0 : w1.cell? ⟨w.heap.size, 0, none⟩ = some (.int .i64 0) := by have h := K1.out.cell 0; rw [World.cell?_alloc_lt w1 _ _ hz1] at h; rw [h]; rfl
  have e1 : w1.cell? ⟨w.heap.size, 1, none⟩ = some (.int .i64 0) := by have h := K1.out.cell 1; rw [World.cell?_alloc_lt w1 _ _ hz1] at h; rw [h]; rfl
  have k0 : w1.frozen? ⟨w.heap.size, 0, none⟩ = false := by have h := K1.out.frozen 0; simpa [go_sem, hz1, Nat.ne_of_lt hz1] using h
  have k1 : w1.frozen? ⟨w.heap.size, 1, none⟩ = false := by have h := K1.out.frozen 1; simpa [go_sem, hz1, Nat.ne_of_lt hz1] using h
  have hn := Nat.ne_of_lt hz1
  go_wp2
  refine bodyPost_ret (v := .tuple #[.agg #[.int .i64 0, .int .i64 0], .int .i64 15]) (by simp [results, Try.results60, go_sem, e0, e1, k0, k1, hn, hz1]) rfl ⟨rfl, ?_⟩
  have := B0.out
  go_grown


def wtL (d f : Int) : List Int := if degfE d f = 0 then (if d = 1 then wts1 f else wts3 f) else []
def wtD (d f : Int) : Int := if degfE d f = 0 then (if d = 1 then 64 else 1572864) else 0
def WtRes (w : World) (d f : Int) (e : Ending) (w' : World) : Prop :=
  (∃ v, e = .returned (.tuple #[v, .int .i64 (wtD d f), .int .i64 (degfE d f)]) ∧ w'.ownsRow w.heap.size 3 1 v (wtL d f).length ((wtL d f).map (Value.int .i64))) ∧ Below w.heap.size w w'
theorem WtRes.mk {w w' : World} {d f dn E : Int} {v : Value} {l : List Int} (hl : wtL d f = l) (hd : wtD d f = dn) (hE : degfE d f = E) (ho : w'.ownsRow w.heap.size 3 1 v l.length (l.map (Value.int .i64))) (hb : Below w.heap.size w w') :
    WtRes w d f (.returned (.tuple #[v, .int .i64 dn, .int .i64 E])) w' := by
  subst hl hd hE
  exact ⟨⟨v, rfl, ho⟩, hb⟩

end Go.Proofs.Ytepcciodhppbnaa

