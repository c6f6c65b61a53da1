import Derived.Test.YtkemoffagdilgaaGreatDoorW54
import Derived.Test.YtkemoffagdilgaaGreatDoorUA
namespace Go.Proofs.YtkemoffagdilgaaGreatDoor
open Go.RowKit

theorem rangesE_b01 (l : List Int) : rangesE l 0 1 = if b01 l then 0 else 2 := by
  rcases rangesE_cases l 0 1 with e | e
  · have : b01 l = true := (b01_iff l).2 fun x hx => by have := (rangesE_zero l 0 1).1 e x hx; omega
    rw [this]; exact e
  · cases hb : b01 l with
    | false => exact e
    | true =>
      have := rangesE01 l ((b01_iff l).1 hb)
      omega

def headE (n : Nat) (l : List Int) : Int := firstE [whenE (decide (3000 < (n : Int))) 8, rangesE l 0 1, whenE (decide ((n : Int) < 7)) 10]

end Go.Proofs.YtkemoffagdilgaaGreatDoor
