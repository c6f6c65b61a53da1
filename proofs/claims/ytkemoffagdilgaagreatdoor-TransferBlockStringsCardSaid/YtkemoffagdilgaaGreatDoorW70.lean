import Derived.Test.YtkemoffagdilgaaGreatDoorW14
namespace Go.Proofs.YtkemoffagdilgaaGreatDoor
open Go.RowKit

/-- How many blocks so many samples make. -/
def cntN (n : Nat) : Nat := (n + 7) / 8

theorem floor8 (n : Int) : n.tdiv 8 - (if n.tmod 8 < 0 then 1 else 0) = n / 8 := by
  have h := Int.mul_tdiv_add_tmod n 8
  by_cases h0 : n.tmod 8 < 0
  · have h1 := tmod_neg n 8 (by omega) h0
    rw [if_pos h0]
    generalize n.tdiv 8 = q at *
    generalize n.tmod 8 = r at *
    omega
  · have h1 := tmod_pos n 8 (by omega) (by omega)
    rw [if_neg h0]
    generalize n.tdiv 8 = q at *
    generalize n.tmod 8 = r at *
    omega

theorem belowDrewN {n0 : Nat} {w w' : World} (h : Below n0 w w') : ∀ k, Below n0 w (w'.drewN k) := fun _ => ⟨h.1, h.2, h.3, h.4, h.5⟩
theorem RdI.drewN {w : World} {A : Option Addr} {n : Nat} {xs : List Int} (h : RdI w A n xs) (k : Nat) : RdI (w.drewN k) A n xs := h
theorem quietW {P : Program} {f : FuncId} {args : Array Value} {w : World} {n : Nat} {v : Value}
    (h : Calls P f args (w.drewN n) fun e w' => e = .returned v ∧ w.drewN n = w') : Calls P f args (w.drewN n) fun e w'' => e = .returned v ∧ ∃ m, w'' = w.drewN m :=
  h.mono fun _ _ ⟨he, hm⟩ => ⟨he, n, hm.symm⟩

/-- The error of a signal that is cut into blocks. -/
def cutE (n : Nat) (xs : List Int) (h c : Int) : Int :=
  if 40 < cntN n then 8 else if smpB xs = false then 2 else if rangeE h 0 3 = 2 then 2 else if inB c 0 65535 = false then 2 else if 65535 < c + ((cntN n - 1 : Nat) : Int) then 2 else 0

theorem rangeE_two (n lo hi : Int) : rangeE n lo hi = 0 ∨ rangeE n lo hi = 2 := by
  unfold rangeE; split
  · exact .inl rfl
  · exact .inr rfl

end Go.Proofs.YtkemoffagdilgaaGreatDoor
