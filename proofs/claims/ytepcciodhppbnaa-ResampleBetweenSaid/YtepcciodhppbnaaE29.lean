import Derived.Test.YtepcciodhppbnaaE28

namespace Go.Proofs.Ytepcciodhppbnaa
open Go.RowKit

def psum (ws : List Int) : Nat → Int
  | 0 => 0
  | k + 1 => psum ws k + ws.getD k 0
theorem psum_bd {ws : List Int} (h : ∀ x ∈ ws, -4000000 ≤ x ∧ x ≤ 4000000) : ∀ k : Nat, -(4000000 * (k : Int)) ≤ psum ws k ∧ psum ws k ≤ 4000000 * (k : Int)
  | 0 => by simp [psum]
  | k + 1 => by
    have h1 := psum_bd h k
    have h2 := getD_bd (xs := ws) (A := 4000000) (by omega) h k
    show _ ≤ psum ws k + ws.getD k 0 ∧ psum ws k + ws.getD k 0 ≤ _
    omega
theorem psum1 {f : Int} : psum (wts1 f) 2 = 64 := by simp [psum, wts1]
theorem psum3 {f : Int} (h : 0 ≤ f ∧ f ≤ 63) : psum (wts3 f) 4 = 1572864 := by
  obtain ⟨j, rfl⟩ := Int.eq_ofNat_of_zero_le h.1
  have key : ∀ k : Fin 64, psum (wts3 (k.val : Int)) 4 = 1572864 := by decide +kernel
  exact key ⟨j, by omega⟩
theorem oneAt {W W' : World} {g : Nat} {t : TypeId} {cs : Array Value} (h : Bk W g t cs) (hb : Below W.heap.size W W') : Bk W' g t cs := h.later hb

end Go.Proofs.Ytepcciodhppbnaa
