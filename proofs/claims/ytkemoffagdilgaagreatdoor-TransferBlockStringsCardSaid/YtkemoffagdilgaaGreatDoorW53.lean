import Derived.Test.YtkemoffagdilgaaGreatDoorW52
namespace Go.Proofs.YtkemoffagdilgaaGreatDoor
open Go.RowKit

theorem rangesE01 (l : List Int) (h : Bits01 l) : rangesE l 0 1 = 0 := (rangesE_zero l 0 1).2 fun x hx => by rcases h x hx with e | e <;> omega

theorem checkEachInt_bits (A : Option Addr) (n c : Nat) (l : List Int) (b0 b1 : Nat) (w : World) (hr : RdI w A n l) (hb : Bits01 l) (hn : n ≤ 9223372036854775807)
    (h0 : w.cell? ⟨b0, 0, none⟩ = some (.int .i64 0)) (h1 : w.cell? ⟨b1, 0, none⟩ = some (.int .i64 1)) :
    Calls Tryz.prog 71 #[.slice A n c, .func (Fn.func 83) #[] #[.pointer (some ⟨b0, 0, none⟩), .pointer (some ⟨b1, 0, none⟩)]] w
      fun e w' => e = .returned (.int .i64 0) ∧ w = w' := by
  have := checkEachInt_any A n c l 0 1 b0 b1 w hr hn h0 h1
  rw [rangesE01 l hb] at this
  exact this

/-- The world behind the checks and the head of Unpacked. -/
structure UnpIn (w : World) (A : Option Addr) (n c : Nat) (l : List Int) (p k : Nat) : Prop where
  laid : Laid w
  rd : RdI w A n l
  b01 : Bits01 l
  n7 : 7 ≤ n
  n400 : n ≤ 400
  nc : n ≤ c
  c6 : c ≤ 9223372036854775807
  p3 : p < 3
  k18 : k < 18
  hp : numT (l.take 2) = p
  hk : numT ((l.drop 2).take 5) = k

end Go.Proofs.YtkemoffagdilgaaGreatDoor
