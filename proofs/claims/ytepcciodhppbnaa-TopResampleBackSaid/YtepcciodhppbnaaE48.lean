import Derived.Test.YtepcciodhppbnaaE47

namespace Go.Proofs.Ytepcciodhppbnaa
open Go.RowKit

theorem ints_same (A B : Option Addr) (n c d : Nat) (xs : List Int) (w : World) (ha : RdI w A n xs) (hb : RdI w B n xs) (hn : n ≤ 9223372036854775806) :
    Calls Try.prog 20 #[.slice A n c, .slice B n d] w fun e w' => e = .returned (.bool true) ∧ ∃ k, w' = w.drewN k := by
  have := ints_any A B n n c d xs xs w ha hb hn hn
  rwa [decide_eq_true rfl] at this
/-- A list of the call's own that reads as xs, and an error. -/
def RdRes (w : World) (E : Int) (n : Nat) (xs : List Int) (e : Ending) (w' : World) : Prop :=
  (∃ A' c', e = .returned (.tuple #[.slice A' n c', .int .i64 E]) ∧ RdI w' A' n xs) ∧ Below w.heap.size w w'
theorem OwnRes.rd {w w' : World} {E : Int} {n : Nat} {xs : List Int} {e : Ending} (h : OwnRes w E xs e w') (hn : xs.length = n) : RdRes w E n xs e w' := by
  obtain ⟨⟨v, rfl, ho⟩, hb⟩ := h
  obtain ⟨A, c, rfl, _, hr⟩ := rd_of_own ho
  rw [hn] at hr ⊢
  exact ⟨⟨A, c, rfl, hr⟩, hb⟩
def RdOne (w : World) (n : Nat) (xs : List Int) (e : Ending) (w' : World) : Prop :=
  (∃ A' c', e = .returned (.slice A' n c') ∧ RdI w' A' n xs) ∧ Below w.heap.size w w'
theorem OwnS.rd {w w' : World} {n : Nat} {xs : List Int} {e : Ending} (h : OwnS w xs e w') (hn : xs.length = n) : RdOne w n xs e w' := by
  obtain ⟨⟨v, rfl, ho⟩, hb⟩ := h
  obtain ⟨A, c, rfl, _, hr⟩ := rd_of_own ho
  rw [hn] at hr ⊢
  exact ⟨⟨A, c, rfl, hr⟩, hb⟩
def RdResB (w : World) (b : Bool) (n : Nat) (xs : List Int) (e : Ending) (w' : World) : Prop :=
  (∃ A' c', e = .returned (.tuple #[.slice A' n c', .bool b]) ∧ RdI w' A' n xs) ∧ Below w.heap.size w w'
theorem OwnResB.rd {w w' : World} {b : Bool} {n : Nat} {xs : List Int} {e : Ending} (h : OwnResB w b xs e w') (hn : xs.length = n) : RdResB w b n xs e w' := by
  obtain ⟨⟨v, rfl, ho⟩, hb⟩ := h
  obtain ⟨A, c, rfl, _, hr⟩ := rd_of_own ho
  rw [hn] at hr ⊢
  exact ⟨⟨A, c, rfl, hr⟩, hb⟩
theorem neF {D : Int} (h : ¬ D = 0) : (D == 0) = false := by rw [beq_eq_false_iff_ne]; exact h
theorem neT {D : Int} (h : ¬ D = 0) : (D != 0) = true := by rw [bne_iff_ne]; exact h
end Go.Proofs.Ytepcciodhppbnaa
