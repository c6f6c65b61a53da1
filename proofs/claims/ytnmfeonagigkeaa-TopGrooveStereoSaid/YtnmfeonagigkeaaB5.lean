import Derived.Test.YtnmfeonagigkeaaB2
import Derived.Test.YtnmfeonagigkeaaB0
namespace Go.Proofs.Ytnmfeonagigkeaa
open Go.RowKit

theorem lit2 (W : World) (b : Nat) (x y : Int) (h : W.cell? ⟨b, 0, none⟩ = some (.int .i64 x)) (h' : W.cell? ⟨b, 1, none⟩ = some (.int .i64 y)) : RdI W (some ⟨b, 0, none⟩) 2 [x, y] :=
  ⟨rfl, fun _ => ⟨_, rfl, World.block_lt_of_cell? _ _ h, fun j hj => by
    rcases (by omega : j = 0 ∨ j = 1) with rfl | rfl
    · rw [addZ]; exact h
    · rw [addOff]; exact h'⟩⟩
theorem gapE_from {count : Int} {prev : Option (Int × Int)} {g : Int × Int} (h : fromB 0 (count - 1) [g.1, g.2] = false) : gapE count prev g = 6 := by
  unfold gapE
  rw [if_neg]
  rintro ⟨⟨a, b⟩, c, d⟩
  simp [fromB] at h
  omega
theorem gapE_in {count : Int} {prev : Option (Int × Int)} {g : Int × Int} (h : fromB 0 (count - 1) [g.1, g.2] = true) : gapE count prev g = (if g.2 < g.1 then 9 else match prev with | none => 0 | some p => if g.1 ≤ p.2 + 1 then 9 else 0) := by
  unfold gapE
  rw [if_pos (by simp [fromB] at h; omega)]
  rfl
theorem from_two {count lo hi : Int} (h : fromB 0 (count - 1) [lo, hi] = true) : 0 ≤ lo ∧ lo ≤ count - 1 ∧ 0 ≤ hi ∧ hi ≤ count - 1 := by simp [fromB] at h; omega

end Go.Proofs.Ytnmfeonagigkeaa
