import Derived.Laws.CopyOwn
namespace Go.Proofs.YtepjnkmmielamaaDoor
open Go

/-- n times x, and then z, c in all. -/
def repL {α : Type} (x z : α) (c n : Nat) : List α := List.replicate n x ++ List.replicate (c - n) z

theorem repL_length {α : Type} (x z : α) (c n : Nat) (h : n ≤ c) : (repL x z c n).length = c := by simp [repL]; omega
theorem repL_at {α : Type} (x z : α) (c n j : Nat) (v : α) (hj : (List.replicate n x)[j]? = some v) : (repL x z c n)[j]? = some v := by
  unfold repL
  rw [List.getElem?_append_left]
  · exact hj
  · have := (List.getElem?_eq_some_iff.1 hj).1
    exact this
theorem repL_splice {α : Type} (x z : α) (c n k : Nat) (h : n + k ≤ c) : splice (repL x z c n) n (List.replicate k x) = repL x z c (n + k) := by
  unfold splice repL
  rw [List.take_append_of_le_length (by simp), List.take_of_length_le (by simp), List.drop_append]
  simp only [List.length_replicate, List.drop_replicate]
  rw [← List.append_assoc, List.replicate_append_replicate, show n - (n + k) = 0 by omega, show c - n - (n + k - n) = c - (n + k) by omega]
  simp
theorem repL_all {α : Type} (x z : α) (c : Nat) : repL x z c c = List.replicate c x := by simp [repL]

end Go.Proofs.YtepjnkmmielamaaDoor
