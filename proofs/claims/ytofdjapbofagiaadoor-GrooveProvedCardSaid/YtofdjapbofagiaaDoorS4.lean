import Derived.Test.YtofdjapbofagiaaDoorS3
namespace Go.Proofs.YtofdjapbofagiaaDoor
open Go.RowKit

def matsF : List (Int × Int) → Int
  | [] => 0
  | p :: ps => if matE p = 0 then matsF ps else matE p
def matsE (ws : List (Int × Int)) : Int := if 200 < ws.length then 8 else matsF ws
def wlsL (ws : List (Int × Int)) : List (Int × Int) := if matsE ws = 0 then ws.map wlsP else []
theorem matsF_step (ws : List (Int × Int)) (k : Nat) (h : k < ws.length) : matsF (ws.drop k) = if matE (ws.getD k (0, 0)) = 0 then matsF (ws.drop (k + 1)) else matE (ws.getD k (0, 0)) := by
  rw [List.drop_eq_getElem_cons h]
  simp only [matsF, List.getD_eq_getElem?_getD, List.getElem?_eq_getElem h, Option.getD_some]
theorem matE_ok {p : Int × Int} (h : matE p = 0) : -2000000 ≤ p.1 ∧ p.1 ≤ 2000000 ∧ -2000000 ≤ p.2 ∧ p.2 ≤ 2000000 ∧ (p.1 - p.2).tdiv 2 = (p.1 - p.2) / 2 ∧ (p.1 + p.2).tdiv 2 = (p.1 + p.2) / 2 := by
  unfold matE at h
  by_cases h1 : fromB (-2000000) 2000000 [p.1, p.2] = true
  · rw [if_pos h1] at h
    by_cases h2 : p.1 % 2 = p.2 % 2
    · have h3 := from_pair h1
      obtain ⟨m1, e1, e2⟩ := half (x := p.1 - p.2) rfl
      obtain ⟨m2, e3, e4⟩ := half (x := p.1 + p.2) rfl
      omega
    · rw [if_neg h2] at h; omega
  · rw [if_neg h1] at h; omega
def OwnResW (w : World) (E : Int) (ps : List (Int × Int)) (e : Ending) (w' : World) : Prop :=
  (∃ v, e = .returned (.tuple #[v, .int .i64 E]) ∧ w'.ownsRow w.heap.size 93 2 v ps.length (pairCells ps)) ∧ Below w.heap.size w w'
theorem OwnResW.none_ {w w' : World} {E : Int} (h : Below w.heap.size w w') : OwnResW w E [] (.returned (.tuple #[.slice none 0 0, .int .i64 E])) w' := ⟨⟨_, rfl, World.ownsRow_nil _ _ _ _⟩, h⟩

end Go.Proofs.YtofdjapbofagiaaDoor
