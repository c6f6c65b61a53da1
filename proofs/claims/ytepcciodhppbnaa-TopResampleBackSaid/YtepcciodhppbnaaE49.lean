import Derived.Test.YtepcciodhppbnaaE48

namespace Go.Proofs.Ytepcciodhppbnaa
open Go.RowKit

theorem eql_D {f s d : Int} {xs : List Int} (h : ¬ eqzE f s d = 0) : eqlE f s d xs = eqzE f s d ∧ eqlL f s d xs = [] := by
  have e : eqsE f s d xs = eqzE f s d := by simp [eqsE, firstNZ, h]
  have e2 : eqlE f s d xs = eqzE f s d := by unfold eqlE; rw [e, if_neg h]
  exact ⟨e2, by unfold eqlL; rw [e2, if_neg h]⟩
theorem eqs_0 {f s d : Int} {xs : List Int} (h : eqzE f s d = 0) : eqsE f s d xs = sigE xs := by
  by_cases h2 : sigE xs = 0 <;> simp [eqsE, firstNZ, h, h2]
theorem eql_S {f s d : Int} {xs : List Int} (h : eqzE f s d = 0) (hS : ¬ sigE xs = 0) : eqlE f s d xs = sigE xs ∧ eqlL f s d xs = [] := by
  have e2 : eqlE f s d xs = sigE xs := by unfold eqlE; rw [eqs_0 h, if_neg hS]
  exact ⟨e2, by unfold eqlL; rw [e2, if_neg hS]⟩
theorem eql_ok {f s d : Int} {xs : List Int} (h : eqzE f s d = 0) (hS : sigE xs = 0) : eqlE f s d xs = (eqR f s d 0 0 xs).2 ∧ eqlL f s d xs = eqY f s d xs := by
  have e2 : eqlE f s d xs = (eqR f s d 0 0 xs).2 := by unfold eqlE; rw [eqs_0 h, if_pos hS]
  exact ⟨e2, by unfold eqlL eqY; rw [e2]⟩
theorem rsl_D {f s d : Int} {xs : List Int} (h : ¬ eqzE f s d = 0) : rssE f s d xs = eqzE f s d ∧ rslL f s d xs = [] := by
  have e : rssE f s d xs = eqzE f s d := by simp [rssE, firstNZ, h]
  exact ⟨e, by unfold rslL; rw [e, if_neg h]⟩
theorem rss_0 {f s d : Int} {xs : List Int} (h : eqzE f s d = 0) : rssE f s d xs = outE xs := by
  by_cases h2 : outE xs = 0 <;> simp [rssE, firstNZ, h, h2]
theorem rsl_O {f s d : Int} {xs : List Int} (h : eqzE f s d = 0) (hO : ¬ outE xs = 0) : rssE f s d xs = outE xs ∧ rslL f s d xs = [] :=
  ⟨rss_0 h, by unfold rslL; rw [rss_0 h, if_neg hO]⟩
theorem rsl_ok {f s d : Int} {xs : List Int} (h : eqzE f s d = 0) (hO : outE xs = 0) : rssE f s d xs = 0 ∧ rslL f s d xs = rsR f s d 0 0 xs :=
  ⟨(rss_0 h).trans hO, by unfold rslL; rw [rss_0 h, if_pos hO]⟩
theorem eq_to {f s d : Int} {xs L : List Int} {E : Int} {n k : Nat} (h : eqlE f s d xs = E ∧ eqlL f s d xs = L) (hk : L.length = k) (hn : n ≤ 1000000) (B : Option Addr) (cb : Nat) (W : World) (hr : RdI W B n xs) :
    Calls Try.prog 30 #[.agg #[.int .i64 f, .int .i64 s, .int .i64 d], .slice B n cb] W (RdRes W E k L) := by
  refine (Equalized_any f s d B n cb xs W hr hn).mono ?_
  intro e w' ho
  rw [h.1, h.2] at ho
  exact ho.rd hk
theorem rs_to {f s d : Int} {xs L : List Int} {E : Int} {n k : Nat} (h : rssE f s d xs = E ∧ rslL f s d xs = L) (hk : L.length = k) (hn : n ≤ 1000000) (B : Option Addr) (cb : Nat) (W : World) (hr : RdI W B n xs) :
    Calls Try.prog 31 #[.agg #[.int .i64 f, .int .i64 s, .int .i64 d], .slice B n cb] W (RdRes W E k L) := by
  refine (Restored_any f s d B n cb xs W hr hn).mono ?_
  intro e w' ho
  rw [h.1, h.2] at ho
  exact ho.rd hk
end Go.Proofs.Ytepcciodhppbnaa
