import Derived.Test.YtepcciodhppbnaaE29

namespace Go.Proofs.Ytepcciodhppbnaa
open Go.RowKit

theorem val_bad {d q E : Int} {xs : List Int} {n : Nat} (h : valE d xs q = E) (hE : ¬ E = 0) (hn : n ≤ 1000000) (B : Option Addr) (cb : Nat) (W : World) (hr : RdI W B n xs) :
    Calls Try.prog 57 #[.int .i64 d, .slice B n cb, .int .i64 q] W fun e w' => e = .returned (.tuple #[.int .i64 0, .int .i64 0, .int .i64 E]) ∧ Below W.heap.size W w' := by
  have := ValueAt_any d B n cb xs q W hr hn
  have h1 : valN d xs q = 0 := by unfold valN; rw [h, if_neg hE]
  have h2 : valD d xs q = 0 := by unfold valD; rw [h, if_neg hE]
  rwa [h, h1, h2] at this
theorem pureC {C : World → Prop} (h : ∀ w, C w) : ∀ w, C w := h
theorem shortB_le {n : Nat} (h : shortB n = true) : n ≤ 402 := by
  unfold shortB at h
  have := of_decide_eq_true h
  omega
theorem rw_good1 {f : Int} (hf : 0 ≤ f ∧ f ≤ 63) (W : World) : Calls Try.prog 126 #[.int .i64 1, .int .i64 f] W fun e w' => (∃ A' c', e = .returned (.tuple #[.slice A' 2 c', .int .i64 64]) ∧ RdI w' A' 2 (wts1 f)) ∧ Below W.heap.size W w' := by
  refine (refWeights1_any f W hf).mono ?_
  rintro e w' ⟨rfl, rfl⟩
  exact ⟨⟨_, _, rfl, rd_of_bk (Bk.new _ _ _) rfl⟩, below1 _ _⟩
theorem val_good1 {q : Int} {xs : List Int} {n : Nat} (h : valE 1 xs q = 0) (hn : n ≤ 1000000) (B : Option Addr) (cb : Nat) (W : World) (hr : RdI W B n xs) :
    Calls Try.prog 57 #[.int .i64 1, .slice B n cb, .int .i64 q] W fun e w' => e = .returned (.tuple #[.int .i64 (vnum1 xs q), .int .i64 64, .int .i64 0]) ∧ Below W.heap.size W w' := by
  have := ValueAt_any 1 B n cb xs q W hr hn
  have h1 : valN 1 xs q = vnum1 xs q := by unfold valN; rw [h, if_pos rfl]; rw [if_pos rfl]
  have h2 : valD 1 xs q = 64 := by unfold valD; rw [h, if_pos rfl]; rw [if_pos rfl]
  rwa [h, h1, h2] at this
theorem rw_good3 {f : Int} (hf : 0 ≤ f ∧ f ≤ 63) (W : World) : Calls Try.prog 126 #[.int .i64 3, .int .i64 f] W fun e w' => (∃ A' c', e = .returned (.tuple #[.slice A' 4 c', .int .i64 1572864]) ∧ RdI w' A' 4 (wts3 f)) ∧ Below W.heap.size W w' := by
  refine (refWeights3_any f W hf).mono ?_
  rintro e w' ⟨rfl, rfl⟩
  exact ⟨⟨_, _, rfl, rd_of_bk (Bk.new _ _ _) rfl⟩, below1 _ _⟩
theorem val_good3 {q : Int} {xs : List Int} {n : Nat} (h : valE 3 xs q = 0) (hn : n ≤ 1000000) (B : Option Addr) (cb : Nat) (W : World) (hr : RdI W B n xs) :
    Calls Try.prog 57 #[.int .i64 3, .slice B n cb, .int .i64 q] W fun e w' => e = .returned (.tuple #[.int .i64 (vnum3 xs q), .int .i64 1572864, .int .i64 0]) ∧ Below W.heap.size W w' := by
  have := ValueAt_any 3 B n cb xs q W hr hn
  have h1 : valN 3 xs q = vnum3 xs q := by unfold valN; rw [h, if_pos rfl]; rw [if_neg (by decide)]
  have h2 : valD 3 xs q = 1572864 := by unfold valD; rw [h, if_pos rfl]; rw [if_neg (by decide)]
  rwa [h, h1, h2] at this
end Go.Proofs.Ytepcciodhppbnaa
