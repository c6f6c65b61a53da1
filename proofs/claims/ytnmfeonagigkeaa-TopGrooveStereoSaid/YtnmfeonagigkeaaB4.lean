import Derived.Test.YtnmfeonagigkeaaB3
import Derived.Laws.OwnMore
namespace Go.Proofs.Ytnmfeonagigkeaa
open Go.RowKit

def BridgeRes (base g n cap : Nat) (ys : List Int) (w : World) (e : Ending) (w' : World) : Prop :=
  (∃ v, e = .returned v) ∧ w'.ownsRow base 3 1 (.slice (some ⟨g, 0, none⟩) n cap) n (ys.map (Value.int .i64)) ∧ w.grownBy w' (some g)
theorem grownRefl (w : World) (r : Option Nat) : w.grownBy w r := World.grownBy.refl w r
theorem grownDrew (w : World) (r : Option Nat) : w.grownBy w.drew r := ⟨rfl, rfl, rfl, Nat.le_refl _, fun _ _ _ => rfl⟩
theorem grownDrewN (w : World) (k : Nat) (r : Option Nat) : w.grownBy (w.drewN k) r := ⟨rfl, rfl, rfl, Nat.le_refl _, fun _ _ _ => rfl⟩
theorem rd_of_ownS {w : World} {base g n cap : Nat} {xs : List Int} (h : w.ownsRow base 3 1 (.slice (some ⟨g, 0, none⟩) n cap) n (xs.map (Value.int .i64))) : RdI w (some ⟨g, 0, none⟩) n xs := by
  obtain ⟨A, c, e, _, hr⟩ := rd_of_own h
  cases e
  exact hr

end Go.Proofs.Ytnmfeonagigkeaa
