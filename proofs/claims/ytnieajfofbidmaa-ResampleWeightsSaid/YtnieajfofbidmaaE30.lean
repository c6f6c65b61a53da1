import Derived.Test.YtnieajfofbidmaaE29

namespace Go.Proofs.Ytnieajfofbidmaa
open Go.RowKit

theorem wt_bad {d f C : Int} (h : degfE d f = C) (hC : ¬ C = 0) (W : World) : Calls Try.prog 57 #[.int .i64 d, .int .i64 f] W fun e w' => (∃ A' c', e = .returned (.tuple #[.slice A' 0 c', .int .i64 0, .int .i64 C]) ∧ RdI w' A' 0 []) ∧ Below W.heap.size W w' := by
  refine (WeightsAt_any d f W).mono ?_
  rintro e w' ⟨⟨v, rfl, ho⟩, hb⟩
  have h1 : wtL d f = [] := by unfold wtL; rw [h, if_neg hC]
  have h2 : wtD d f = 0 := by unfold wtD; rw [h, if_neg hC]
  rw [h1] at ho
  obtain ⟨A', c', rfl, _, hr⟩ := rd_of_own ho
  exact ⟨⟨A', c', by rw [h, h2]; rfl, hr⟩, hb⟩
theorem val_bad {d q E : Int} {xs : List Int} {n : Nat} (h : valE d xs q = E) (hE : ¬ E = 0) (hn : n ≤ 1000000) (B : Option Addr) (cb : Nat) (W : World) (hr : RdI W B n xs) :
    Calls Try.prog 58 #[.int .i64 d, .slice B n cb, .int .i64 q] W fun e w' => e = .returned (.tuple #[.int .i64 0, .int .i64 0, .int .i64 E]) ∧ Below W.heap.size W w' := by
  have := ValueAt_any d B n cb xs q W hr hn
  have h1 : valN d xs q = 0 := by unfold valN; rw [h, if_neg hE]
  have h2 : valD d xs q = 0 := by unfold valD; rw [h, if_neg hE]
  rwa [h, h1, h2] at this
theorem pureC {C : World → Prop} (h : ∀ w, C w) : ∀ w, C w := h
theorem shortB_le {n : Nat} (h : shortB n = true) : n ≤ 402 := by
  unfold shortB at h
  have := of_decide_eq_true h
  omega
set_option maxRecDepth 100000 in
set_option maxHeartbeats 1000000 in
theorem weights_far (x0 x1 x2 : Int) (A : Option Addr) (n c : Nat) (w : World) (hn : n ≤ 9223372036854775807) (hsh : shortB n = false) :
    Calls Try.prog 11 #[.agg #[.int .i64 x0, .int .i64 x1, .int .i64 x2], .slice A n c] w fun e w' => e = .returned (.bool true) ∧ Below w.heap.size w w' := by
  have CSh := Lib.hid (fun W => short_any A n c W hn)
  rw [hsh] at CSh
  clear hsh
  have B0 := Lib.hid (below1 w (.cells #[.int .i64 x0, .int .i64 x1, .int .i64 x2] 78))
  go_enter Try.func11, Try.ntmps11
  go_wp2_with fail
  refine (awake_any _).mono ?_
  rintro e w1 ⟨rfl, hb⟩
  have B1 := Lib.hid (B0.out.trans (hb.mono B0.out.size))
  clear hb B0
  go_wp2_with fail
  refine (CSh.out _).mono ?_
  rintro e w' ⟨rfl, rfl⟩
  go_wp2
  go_ret
  exact ⟨rfl, B1.out⟩

theorem wt_good1 {f : Int} (hf : 0 ≤ f ∧ f ≤ 63) (W : World) : Calls Try.prog 57 #[.int .i64 1, .int .i64 f] W fun e w' => (∃ A' c', e = .returned (.tuple #[.slice A' 2 c', .int .i64 64, .int .i64 0]) ∧ RdI w' A' 2 (wts1 f)) ∧ Below W.heap.size W w' := by
  refine (WeightsAt_any 1 f W).mono ?_
  rintro e w' ⟨⟨v, rfl, ho⟩, hb⟩
  have h : degfE 1 f = 0 := by
    have e1 : frcE f = 0 := rngE_of hf
    simp [degfE, firstNZ, degE_of1, e1]
  have h1 : wtL 1 f = wts1 f := by unfold wtL; rw [h, if_pos rfl]; rw [if_pos rfl]
  have h2 : wtD 1 f = 64 := by unfold wtD; rw [h, if_pos rfl]; rw [if_pos rfl]
  rw [h1] at ho
  obtain ⟨A', c', rfl, _, hr⟩ := rd_of_own ho
  exact ⟨⟨A', c', by rw [h, h2]; rfl, hr⟩, hb⟩
theorem rw_good1 {f : Int} (hf : 0 ≤ f ∧ f ≤ 63) (W : World) : Calls Try.prog 59 #[.int .i64 1, .int .i64 f] W fun e w' => (∃ A' c', e = .returned (.tuple #[.slice A' 2 c', .int .i64 64]) ∧ RdI w' A' 2 (wts1 f)) ∧ Below W.heap.size W w' := by
  refine (refWeights1_any f W hf).mono ?_
  rintro e w' ⟨rfl, rfl⟩
  exact ⟨⟨_, _, rfl, rd_of_bk (Bk.new _ _ _) rfl⟩, below1 _ _⟩
theorem val_good1 {q : Int} {xs : List Int} {n : Nat} (h : valE 1 xs q = 0) (hn : n ≤ 1000000) (B : Option Addr) (cb : Nat) (W : World) (hr : RdI W B n xs) :
    Calls Try.prog 58 #[.int .i64 1, .slice B n cb, .int .i64 q] W fun e w' => e = .returned (.tuple #[.int .i64 (vnum1 xs q), .int .i64 64, .int .i64 0]) ∧ Below W.heap.size W w' := by
  have := ValueAt_any 1 B n cb xs q W hr hn
  have h1 : valN 1 xs q = vnum1 xs q := by unfold valN; rw [h, if_pos rfl]; rw [if_pos rfl]
  have h2 : valD 1 xs q = 64 := by unfold valD; rw [h, if_pos rfl]; rw [if_pos rfl]
  rwa [h, h1, h2] at this
theorem weights_deg1 (x1 x2 : Int) (A : Option Addr) (n c : Nat) (xs : List Int) (w : World) (hr : RdI w A n xs) (hsh : shortB n = true) (hA : A = none → n = 0 ∧ c = 0) :
    Calls Try.prog 11 #[.agg #[.int .i64 1, .int .i64 x1, .int .i64 x2], .slice A n c] w fun e w' => e = .returned (.bool true) ∧ Below w.heap.size w w' := by
  have hn := shortB_le hsh
  have hxl := hr.1
  have CD : ∀ W, Calls Try.prog 53 #[.int .i64 1] W fun e w' => e = .returned (.int .i64 0) ∧ W = w' := fun W => by
    have := refDegreeErr_any 1 W
    rwa [degE_of1] at this
  have CF := fun W => refFractionErr_any x1 W
  have CSg := fun W (h : RdI W A n xs) => refSignalErr_any A n c xs W h (by omega)
  have CWi := fun W => within_any x2 0 (64 * ((n : Int) - 1)) W
  have hV : valE 1 xs x2 = firstNZ [sigE xs, rngE 0 (64 * ((n : Int) - 1)) [x2]] := by unfold valE; rw [hxl]; simp [firstNZ, degE_of1]
  have hG : degfE 1 x1 = frcE x1 := by by_cases h : frcE x1 = 0 <;> simp [degfE, firstNZ, degE_of1, h]
  by_cases hs : sigE xs = 0
  · have hxs := (sigE_zero hs).2
    rw [hs] at CSg
    cases hw : fromB 0 (64 * ((n : Int) - 1)) [x2]
    · rw [hw] at CWi
      have hv : valE 1 xs x2 = 2 := by rw [hV, hs]; simp [firstNZ, rngE, hw]
      by_cases hf : frcE x1 = 0
      · have hfb : 0 ≤ x1 ∧ x1 ≤ 63 := rngE_zero hf
        rw [hf] at CF
        exact wtw_good_rng 1 x1 x2 A n c xs w 2 64 (wts1 x1) (by omega) (wts1_bd hfb) (psum1) hr hn hsh hA (wt_good1 hfb) (fun B cb W h => val_bad hv (by decide) (by omega) B cb W h) CD CF (rw_good1 hfb) CSg CWi
      · exact wtw_frc_rng 1 x1 x2 A n c xs w (frcE x1) hf hr hn hsh hA (wt_bad hG hf) (fun B cb W h => val_bad hv (by decide) (by omega) B cb W h) CD CF CSg CWi
    · rw [hw] at CWi
      have hq : 0 ≤ x2 ∧ x2 ≤ 64 * ((n : Int) - 1) := by rw [fromB_one] at hw; exact of_decide_eq_true hw
      have hv : valE 1 xs x2 = 0 := by rw [hV, hs]; simp [firstNZ, rngE, hw]
      have CRV := fun W (h : RdI W A n xs) => refValue1_any A n c xs x2 W h (by omega) hxs (by omega)
      by_cases hf : frcE x1 = 0
      · have hfb : 0 ≤ x1 ∧ x1 ≤ 63 := rngE_zero hf
        rw [hf] at CF
        exact wtw_good_good 1 x1 x2 A n c xs w 2 64 (wts1 x1) (by omega) (wts1_bd hfb) (psum1) (vnum1 xs x2) 64 hr hn hsh hA (wt_good1 hfb) (fun B cb W h => val_good1 hv (by omega) B cb W h) CD CF (rw_good1 hfb) CSg CWi CRV
      · exact wtw_frc_good 1 x1 x2 A n c xs w (frcE x1) hf (vnum1 xs x2) 64 hr hn hsh hA (wt_bad hG hf) (fun B cb W h => val_good1 hv (by omega) B cb W h) CD CF CSg CWi CRV
  · have hv : valE 1 xs x2 = sigE xs := by rw [hV]; simp [firstNZ, hs]
    by_cases hf : frcE x1 = 0
    · have hfb : 0 ≤ x1 ∧ x1 ≤ 63 := rngE_zero hf
      rw [hf] at CF
      exact wtw_good_sig 1 x1 x2 A n c xs w 2 64 (wts1 x1) (by omega) (wts1_bd hfb) (psum1) (sigE xs) hs hr hn hsh hA (wt_good1 hfb) (fun B cb W h => val_bad hv hs (by omega) B cb W h) CD CF (rw_good1 hfb) CSg
    · exact wtw_frc_sig 1 x1 x2 A n c xs w (frcE x1) hf (sigE xs) hs hr hn hsh hA (wt_bad hG hf) (fun B cb W h => val_bad hv hs (by omega) B cb W h) CD CF CSg

theorem wt_good3 {f : Int} (hf : 0 ≤ f ∧ f ≤ 63) (W : World) : Calls Try.prog 57 #[.int .i64 3, .int .i64 f] W fun e w' => (∃ A' c', e = .returned (.tuple #[.slice A' 4 c', .int .i64 1572864, .int .i64 0]) ∧ RdI w' A' 4 (wts3 f)) ∧ Below W.heap.size W w' := by
  refine (WeightsAt_any 3 f W).mono ?_
  rintro e w' ⟨⟨v, rfl, ho⟩, hb⟩
  have h : degfE 3 f = 0 := by
    have e1 : frcE f = 0 := rngE_of hf
    simp [degfE, firstNZ, degE_of3, e1]
  have h1 : wtL 3 f = wts3 f := by unfold wtL; rw [h, if_pos rfl]; rw [if_neg (by decide)]
  have h2 : wtD 3 f = 1572864 := by unfold wtD; rw [h, if_pos rfl]; rw [if_neg (by decide)]
  rw [h1] at ho
  obtain ⟨A', c', rfl, _, hr⟩ := rd_of_own ho
  exact ⟨⟨A', c', by rw [h, h2]; rfl, hr⟩, hb⟩
theorem rw_good3 {f : Int} (hf : 0 ≤ f ∧ f ≤ 63) (W : World) : Calls Try.prog 59 #[.int .i64 3, .int .i64 f] W fun e w' => (∃ A' c', e = .returned (.tuple #[.slice A' 4 c', .int .i64 1572864]) ∧ RdI w' A' 4 (wts3 f)) ∧ Below W.heap.size W w' := by
  refine (refWeights3_any f W hf).mono ?_
  rintro e w' ⟨rfl, rfl⟩
  exact ⟨⟨_, _, rfl, rd_of_bk (Bk.new _ _ _) rfl⟩, below1 _ _⟩
theorem val_good3 {q : Int} {xs : List Int} {n : Nat} (h : valE 3 xs q = 0) (hn : n ≤ 1000000) (B : Option Addr) (cb : Nat) (W : World) (hr : RdI W B n xs) :
    Calls Try.prog 58 #[.int .i64 3, .slice B n cb, .int .i64 q] W fun e w' => e = .returned (.tuple #[.int .i64 (vnum3 xs q), .int .i64 1572864, .int .i64 0]) ∧ Below W.heap.size W w' := by
  have := ValueAt_any 3 B n cb xs q W hr hn
  have h1 : valN 3 xs q = vnum3 xs q := by unfold valN; rw [h, if_pos rfl]; rw [if_neg (by decide)]
  have h2 : valD 3 xs q = 1572864 := by unfold valD; rw [h, if_pos rfl]; rw [if_neg (by decide)]
  rwa [h, h1, h2] at this
theorem weights_deg3 (x1 x2 : Int) (A : Option Addr) (n c : Nat) (xs : List Int) (w : World) (hr : RdI w A n xs) (hsh : shortB n = true) (hA : A = none → n = 0 ∧ c = 0) :
    Calls Try.prog 11 #[.agg #[.int .i64 3, .int .i64 x1, .int .i64 x2], .slice A n c] w fun e w' => e = .returned (.bool true) ∧ Below w.heap.size w w' := by
  have hn := shortB_le hsh
  have hxl := hr.1
  have CD : ∀ W, Calls Try.prog 53 #[.int .i64 3] W fun e w' => e = .returned (.int .i64 0) ∧ W = w' := fun W => by
    have := refDegreeErr_any 3 W
    rwa [degE_of3] at this
  have CF := fun W => refFractionErr_any x1 W
  have CSg := fun W (h : RdI W A n xs) => refSignalErr_any A n c xs W h (by omega)
  have CWi := fun W => within_any x2 0 (64 * ((n : Int) - 1)) W
  have hV : valE 3 xs x2 = firstNZ [sigE xs, rngE 0 (64 * ((n : Int) - 1)) [x2]] := by unfold valE; rw [hxl]; simp [firstNZ, degE_of3]
  have hG : degfE 3 x1 = frcE x1 := by by_cases h : frcE x1 = 0 <;> simp [degfE, firstNZ, degE_of3, h]
  by_cases hs : sigE xs = 0
  · have hxs := (sigE_zero hs).2
    rw [hs] at CSg
    cases hw : fromB 0 (64 * ((n : Int) - 1)) [x2]
    · rw [hw] at CWi
      have hv : valE 3 xs x2 = 2 := by rw [hV, hs]; simp [firstNZ, rngE, hw]
      by_cases hf : frcE x1 = 0
      · have hfb : 0 ≤ x1 ∧ x1 ≤ 63 := rngE_zero hf
        rw [hf] at CF
        exact wtw_good_rng 3 x1 x2 A n c xs w 4 1572864 (wts3 x1) (by omega) (wts3_bd hfb) (psum3 hfb) hr hn hsh hA (wt_good3 hfb) (fun B cb W h => val_bad hv (by decide) (by omega) B cb W h) CD CF (rw_good3 hfb) CSg CWi
      · exact wtw_frc_rng 3 x1 x2 A n c xs w (frcE x1) hf hr hn hsh hA (wt_bad hG hf) (fun B cb W h => val_bad hv (by decide) (by omega) B cb W h) CD CF CSg CWi
    · rw [hw] at CWi
      have hq : 0 ≤ x2 ∧ x2 ≤ 64 * ((n : Int) - 1) := by rw [fromB_one] at hw; exact of_decide_eq_true hw
      have hv : valE 3 xs x2 = 0 := by rw [hV, hs]; simp [firstNZ, rngE, hw]
      have CRV := fun W (h : RdI W A n xs) => refValue3_any A n c xs x2 W h (by omega) hxs (by omega)
      by_cases hf : frcE x1 = 0
      · have hfb : 0 ≤ x1 ∧ x1 ≤ 63 := rngE_zero hf
        rw [hf] at CF
        exact wtw_good_good 3 x1 x2 A n c xs w 4 1572864 (wts3 x1) (by omega) (wts3_bd hfb) (psum3 hfb) (vnum3 xs x2) 1572864 hr hn hsh hA (wt_good3 hfb) (fun B cb W h => val_good3 hv (by omega) B cb W h) CD CF (rw_good3 hfb) CSg CWi CRV
      · exact wtw_frc_good 3 x1 x2 A n c xs w (frcE x1) hf (vnum3 xs x2) 1572864 hr hn hsh hA (wt_bad hG hf) (fun B cb W h => val_good3 hv (by omega) B cb W h) CD CF CSg CWi CRV
  · have hv : valE 3 xs x2 = sigE xs := by rw [hV]; simp [firstNZ, hs]
    by_cases hf : frcE x1 = 0
    · have hfb : 0 ≤ x1 ∧ x1 ≤ 63 := rngE_zero hf
      rw [hf] at CF
      exact wtw_good_sig 3 x1 x2 A n c xs w 4 1572864 (wts3 x1) (by omega) (wts3_bd hfb) (psum3 hfb) (sigE xs) hs hr hn hsh hA (wt_good3 hfb) (fun B cb W h => val_bad hv hs (by omega) B cb W h) CD CF (rw_good3 hfb) CSg
    · exact wtw_frc_sig 3 x1 x2 A n c xs w (frcE x1) hf (sigE xs) hs hr hn hsh hA (wt_bad hG hf) (fun B cb W h => val_bad hv hs (by omega) B cb W h) CD CF CSg

theorem weights_walk (x0 x1 x2 : Int) (A : Option Addr) (n c : Nat) (xs : List Int) (w : World) (hr : RdI w A n xs) (hnn : n ≤ 9223372036854775807) (hA : A = none → n = 0 ∧ c = 0) :
    Calls Try.prog 11 #[.agg #[.int .i64 x0, .int .i64 x1, .int .i64 x2], .slice A n c] w fun e w' => e = .returned (.bool true) ∧ Below w.heap.size w w' := by
  cases hsh : shortB n
  · exact weights_far x0 x1 x2 A n c w hnn hsh
  · by_cases h1 : x0 = 1
    · subst h1; exact weights_deg1 x1 x2 A n c xs w hr hsh hA
    · by_cases h3 : x0 = 3
      · subst h3; exact weights_deg3 x1 x2 A n c xs w hr hsh hA
      · have hn := shortB_le hsh
        have hd : ¬ degE x0 = 0 := by rw [degE_no h1 h3]; decide
        have hG : degfE x0 x1 = degE x0 := by simp [degfE, firstNZ, hd]
        have hV : valE x0 xs x2 = degE x0 := by simp [valE, firstNZ, hd]
        exact wtw_deg x0 x1 x2 A n c xs w (degE x0) hd hr hn hsh hA (wt_bad hG hd) (fun B cb W h => val_bad hV hd (by omega) B cb W h) (fun W => refDegreeErr_any x0 W)

end Go.Proofs.Ytnieajfofbidmaa
