import Derived.Test.YtghpofhpkbgckaaE48

namespace Go.Proofs.Ytghpofhpkbgckaa
open Go.RowKit

theorem eql_D {f s d : Int} {xs : List Int} (h : ¬ eqzE f s d = 0) : eqlE f s d xs = eqzE f s d ∧ eqlL f s d xs = [] := by
  have e : eqsE f s d xs = eqzE f s d := by simp [eqsE, firstNZ, h]
  have e2 : eqlE f s d xs = eqzE f s d := by unfold eqlE; rw [e, if_neg h]
  exact ⟨e2, by unfold eqlL; rw [e2, if_neg h]⟩
theorem eqs_0 {f s d : Int} {xs : List Int} (h : eqzE f s d = 0) : eqsE f s d xs = sigE xs := by
  by_cases h2 : sigE xs = 0 <;> simp [eqsE, firstNZ, h, h2]
theorem eql_S {f s d : Int} {xs : List Int} (h : eqzE f s d = 0) (hS : ¬ sigE xs = 0) : eqlE f s d xs = sigE xs ∧ eqlL f s d xs = [] := by
  have e2 : eqlE f s d xs = sigE xs := by unfold eqlE; rw [eqs_0 h, if_neg hS]
  exact ⟨e2, by unfold eqlL; rw [e2, if_neg hS]⟩
theorem eql_ok {f s d : Int} {xs : List Int} (h : eqzE f s d = 0) (hS : sigE xs = 0) : eqlE f s d xs = (eqR f s d 0 0 xs).2 ∧ eqlL f s d xs = eqY f s d xs := by
  have e2 : eqlE f s d xs = (eqR f s d 0 0 xs).2 := by unfold eqlE; rw [eqs_0 h, if_pos hS]
  exact ⟨e2, by unfold eqlL eqY; rw [e2]⟩
theorem rsl_D {f s d : Int} {xs : List Int} (h : ¬ eqzE f s d = 0) : rssE f s d xs = eqzE f s d ∧ rslL f s d xs = [] := by
  have e : rssE f s d xs = eqzE f s d := by simp [rssE, firstNZ, h]
  exact ⟨e, by unfold rslL; rw [e, if_neg h]⟩
theorem rss_0 {f s d : Int} {xs : List Int} (h : eqzE f s d = 0) : rssE f s d xs = outE xs := by
  by_cases h2 : outE xs = 0 <;> simp [rssE, firstNZ, h, h2]
theorem rsl_O {f s d : Int} {xs : List Int} (h : eqzE f s d = 0) (hO : ¬ outE xs = 0) : rssE f s d xs = outE xs ∧ rslL f s d xs = [] :=
  ⟨rss_0 h, by unfold rslL; rw [rss_0 h, if_neg hO]⟩
theorem rsl_ok {f s d : Int} {xs : List Int} (h : eqzE f s d = 0) (hO : outE xs = 0) : rssE f s d xs = 0 ∧ rslL f s d xs = rsR f s d 0 0 xs :=
  ⟨(rss_0 h).trans hO, by unfold rslL; rw [rss_0 h, if_pos hO]⟩
theorem eq_to {f s d : Int} {xs L : List Int} {E : Int} {n k : Nat} (h : eqlE f s d xs = E ∧ eqlL f s d xs = L) (hk : L.length = k) (hn : n ≤ 1000000) (B : Option Addr) (cb : Nat) (W : World) (hr : RdI W B n xs) :
    Calls Try.prog 46 #[.agg #[.int .i64 f, .int .i64 s, .int .i64 d], .slice B n cb] W (RdRes W E k L) := by
  refine (Equalized_any f s d B n cb xs W hr hn).mono ?_
  intro e w' ho
  rw [h.1, h.2] at ho
  exact ho.rd hk
theorem rs_to {f s d : Int} {xs L : List Int} {E : Int} {n k : Nat} (h : rssE f s d xs = E ∧ rslL f s d xs = L) (hk : L.length = k) (hn : n ≤ 1000000) (B : Option Addr) (cb : Nat) (W : World) (hr : RdI W B n xs) :
    Calls Try.prog 47 #[.agg #[.int .i64 f, .int .i64 s, .int .i64 d], .slice B n cb] W (RdRes W E k L) := by
  refine (Restored_any f s d B n cb xs W hr hn).mono ?_
  intro e w' ho
  rw [h.1, h.2] at ho
  exact ho.rd hk
theorem eq_far (f s d : Int) (A : Option Addr) (n c : Nat) (A2 : Option Addr) (n2 c2 : Nat) (w : World) (hn : n ≤ 9223372036854775807) (hn2 : n2 ≤ 9223372036854775807) (h : shortB n = false ∨ shortB n2 = false) :
    Calls Try.prog 8 #[.agg #[.int .i64 f, .int .i64 s, .int .i64 d], .slice A n c, .slice A2 n2 c2] w fun e w' => e = .returned (.bool true) ∧ Below w.heap.size w w' := by
  have CSh := Lib.hid (fun W => short_any A n c W hn)
  have CSh2 := Lib.hid (fun W => short_any A2 n2 c2 W hn2)
  have B0 := Lib.hid (below1 w (.cells #[.int .i64 f, .int .i64 s, .int .i64 d] 68))
  cases h1 : shortB n with
  | false =>
    rw [h1] at CSh
    clear h h1
    go_enter Try.func8, Try.ntmps8
    go_wp2_with fail
    refine (awake_any _).mono ?_
    rintro e w1 ⟨rfl, hb⟩
    have B1 := Lib.hid (B0.out.trans (hb.mono B0.out.size))
    clear hb B0
    go_wp2_with fail
    refine (CSh.out _).mono ?_
    rintro e w' ⟨rfl, rfl⟩
    go_wp2
    go_ret
    exact ⟨rfl, B1.out⟩
  | true =>
    have h2 : shortB n2 = false := h.resolve_left (by rw [h1]; decide)
    rw [h1] at CSh
    rw [h2] at CSh2
    clear h h1 h2
    go_enter Try.func8, Try.ntmps8
    go_wp2_with fail
    refine (awake_any _).mono ?_
    rintro e w1 ⟨rfl, hb⟩
    have B1 := Lib.hid (B0.out.trans (hb.mono B0.out.size))
    clear hb B0
    go_wp2_with fail
    refine (CSh.out _).mono ?_
    rintro e w' ⟨rfl, rfl⟩
    go_wp2_with fail
    refine (CSh2.out _).mono ?_
    rintro e w' ⟨rfl, rfl⟩
    go_wp2
    go_ret
    exact ⟨rfl, B1.out⟩
theorem equalizes_walk (f s d : Int) (A : Option Addr) (n c : Nat) (xs : List Int) (A2 : Option Addr) (n2 c2 : Nat) (ys : List Int) (w : World) (hr : RdI w A n xs) (hn0 : n ≤ 9223372036854775807) (hA : A = none → n = 0 ∧ c = 0) (hr2 : RdI w A2 n2 ys) (hn02 : n2 ≤ 9223372036854775807) (hA2 : A2 = none → n2 = 0 ∧ c2 = 0) :
    Calls Try.prog 8 #[.agg #[.int .i64 f, .int .i64 s, .int .i64 d], .slice A n c, .slice A2 n2 c2] w fun e w' => e = .returned (.bool true) ∧ Below w.heap.size w w' := by
  by_cases hsh : shortB n = true
  rotate_left
  · exact eq_far f s d A n c A2 n2 c2 w hn0 hn02 (.inl (by simpa using hsh))
  by_cases hsh2 : shortB n2 = true
  rotate_left
  · exact eq_far f s d A n c A2 n2 c2 w hn0 hn02 (.inr (by simpa using hsh2))
  have hn := shortB_le hsh
  have hn2 := shortB_le hsh2
  have CQ := fun W => refEqualizerErr_any f s d W
  have CK := fun W => CheckEqualizer_any f s d W
  have CO := fun W (h : RdI W A2 n2 ys) => refOutputErr_any A2 n2 c2 ys W h (by omega)
  have CS := fun W (h : RdI W A n xs) => refSignalErr_any A n c xs W h (by omega)
  by_cases hD : eqzE f s d = 0
  rotate_left
  · exact eqw_D f s d A n c xs A2 n2 c2 ys w (eqzE f s d) hD hr hr2 hn hn2 hsh hsh2 hA hA2 (fun B cb W h => eq_to (eql_D hD) rfl (by omega) B cb W h) (fun B cb W h => rs_to (rsl_D hD) rfl (by omega) B cb W h) CQ CK
  have hok : EqOk f s d := eqzE_zero hD
  have CRr := fun (hO : outE ys = 0) W (h : RdI W A2 n2 ys) => (refRestored_any f s d A2 n2 c2 ys W hok h (by omega) (outE_zero hO).2).mono (fun e w' ho => ho.rd ((rsR_len f s d ys 0 0).trans hr2.1))
  have CEr := fun (hS : sigE xs = 0) W (h : RdI W A n xs) => refEqualized_any f s d A n c xs W hok h (by omega) (fun x hx => by have := (sigE_zero hS).2 x hx; omega)
  rw [hD] at CQ CK
  by_cases hO : outE ys = 0
  · have CRs := fun B cb W h => rs_to (n := n2) (rsl_ok hD hO) ((rsR_len f s d ys 0 0).trans hr2.1) (by omega) B cb W h
    have CRr' := CRr hO
    rw [hO] at CO
    by_cases hS : sigE xs = 0
    · have CEr' := CEr hS
      rw [hS] at CS
      rcases eqR_01 f s d xs 0 0 with h0 | h0
      · have hy : eqY f s d xs = (eqR f s d 0 0 xs).1 := by unfold eqY; rw [if_pos h0]
        have hb : eqB f s d xs = true := by unfold eqB; exact decide_eq_true h0
        have hl : (eqR f s d 0 0 xs).1.length = n := (eqR_len f s d xs 0 0 h0).trans hr.1
        have h1 := eql_ok (xs := xs) hD hS
        rw [h0, hy] at h1
        rw [hb, hy] at CEr'
        exact eqw_1 f s d A n c xs A2 n2 c2 ys w (eqR f s d 0 0 xs).1 (rsR f s d 0 0 ys) hr hr2 hn hn2 hsh hsh2 hA hA2 (fun B cb W h => eq_to h1 hl (by omega) B cb W h) CRs CQ CK CO CRr' CS (fun W h => (CEr' W h).mono (fun e w' ho => ho.rd hl))
      · have hy : eqY f s d xs = [] := by unfold eqY; rw [if_neg (by rw [h0]; decide)]
        have hb : eqB f s d xs = false := by unfold eqB; exact decide_eq_false (by rw [h0]; decide)
        have h1 := eql_ok (xs := xs) hD hS
        rw [h0, hy] at h1
        rw [hb, hy] at CEr'
        exact eqw_0 f s d A n c xs A2 n2 c2 ys w (rsR f s d 0 0 ys) hr hr2 hn hn2 hsh hsh2 hA hA2 (fun B cb W h => eq_to h1 rfl (by omega) B cb W h) CRs CQ CK CO CRr' CS (fun W h => (CEr' W h).mono (fun e w' ho => ho.rd rfl))
    · exact eqw_S f s d A n c xs A2 n2 c2 ys w (sigE xs) hS (rsR f s d 0 0 ys) hr hr2 hn hn2 hsh hsh2 hA hA2 (fun B cb W h => eq_to (eql_S hD hS) rfl (by omega) B cb W h) CRs CQ CK CO CRr' CS
  · have CRs := fun B cb W h => rs_to (n := n2) (rsl_O hD hO) rfl (by omega) B cb W h
    by_cases hS : sigE xs = 0
    · have CEr' := CEr hS
      rw [hS] at CS
      rcases eqR_01 f s d xs 0 0 with h0 | h0
      · have hy : eqY f s d xs = (eqR f s d 0 0 xs).1 := by unfold eqY; rw [if_pos h0]
        have hb : eqB f s d xs = true := by unfold eqB; exact decide_eq_true h0
        have hl : (eqR f s d 0 0 xs).1.length = n := (eqR_len f s d xs 0 0 h0).trans hr.1
        have h1 := eql_ok (xs := xs) hD hS
        rw [h0, hy] at h1
        rw [hb, hy] at CEr'
        exact eqw_O1 f s d A n c xs A2 n2 c2 ys w (outE ys) hO (eqR f s d 0 0 xs).1 hr hr2 hn hn2 hsh hsh2 hA hA2 (fun B cb W h => eq_to h1 hl (by omega) B cb W h) CRs CQ CK CO CS (fun W h => (CEr' W h).mono (fun e w' ho => ho.rd hl))
      · have hy : eqY f s d xs = [] := by unfold eqY; rw [if_neg (by rw [h0]; decide)]
        have hb : eqB f s d xs = false := by unfold eqB; exact decide_eq_false (by rw [h0]; decide)
        have h1 := eql_ok (xs := xs) hD hS
        rw [h0, hy] at h1
        rw [hb, hy] at CEr'
        exact eqw_O0 f s d A n c xs A2 n2 c2 ys w (outE ys) hO hr hr2 hn hn2 hsh hsh2 hA hA2 (fun B cb W h => eq_to h1 rfl (by omega) B cb W h) CRs CQ CK CO CS (fun W h => (CEr' W h).mono (fun e w' ho => ho.rd rfl))
    · exact eqw_OS f s d A n c xs A2 n2 c2 ys w (outE ys) hO (sigE xs) hS hr hr2 hn hn2 hsh hsh2 hA hA2 (fun B cb W h => eq_to (eql_S hD hS) rfl (by omega) B cb W h) CRs CQ CK CO CS

end Go.Proofs.Ytghpofhpkbgckaa
