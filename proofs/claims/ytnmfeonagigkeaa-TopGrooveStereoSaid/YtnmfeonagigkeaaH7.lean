import Derived.Test.YtnmfeonagigkeaaH6
import Derived.Deep.RegionHeld
namespace Go.Proofs.Ytnmfeonagigkeaa
open Go.RowKit

theorem lit1 (W : World) (b : Nat) (x : Int) (h : W.cell? ⟨b, 0, none⟩ = some (.int .i64 x)) : RdI W (some ⟨b, 0, none⟩) 1 [x] :=
  ⟨rfl, fun _ => ⟨_, rfl, World.block_lt_of_cell? _ _ h, fun j hj => by obtain rfl : j = 0 := by omega
                                                                        rw [addZ]; exact h⟩⟩

end Go.Proofs.Ytnmfeonagigkeaa
