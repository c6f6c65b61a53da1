import Derived.Test.YtpkjkegcdddimaaDoorS0
namespace Go.Proofs.YtpkjkegcdddimaaDoor
open Go.RowKit

end Go.Proofs.YtpkjkegcdddimaaDoor

namespace Go.Proofs.YtpkjkegcdddimaaDoor
open Go.RowKit

def widP (p : Int × Int) : Int := p.2 - p.1
def widL (ws : List (Int × Int)) : List Int := if wallsE ws = 0 then ws.map widP else []
theorem matField (a b : Int) (W : World) : (Instr.field 82 (.agg #[.int .i64 a, .int .i64 b]) 1).run Tryd.prog W = .ok (.int .i64 b) W := by kernel_rfl
end Go.Proofs.YtpkjkegcdddimaaDoor

namespace Go.Proofs.YtpkjkegcdddimaaDoor
open Go.RowKit

theorem half {x q : Int} (h : x.tdiv 2 = q) : ∃ m : Int, 2 * q + m = x ∧ -1 ≤ m ∧ m ≤ 1 := by
  refine ⟨x.tmod 2, ?_, ?_, ?_⟩
  · rw [← h]; exact Int.mul_tdiv_add_tmod x 2
  · have := Int.lt_tmod_of_pos x (show (0 : Int) < 2 by omega); omega
  · have := Int.tmod_lt_of_pos x (show (0 : Int) < 2 by omega); omega
theorem from_pair {lo hi a b : Int} (h : fromB lo hi [a, b] = true) : lo ≤ a ∧ a ≤ hi ∧ lo ≤ b ∧ b ≤ hi := by simp [fromB] at h; omega
/-- The error of a matrix, and its walls. -/
def matE (p : Int × Int) : Int := if fromB (-2000000) 2000000 [p.1, p.2] = true then (if p.1 % 2 = p.2 % 2 then (if p.2 < 0 then 9 else if fromB (-1000000) 1000000 [(p.1 - p.2) / 2, (p.1 + p.2) / 2] = true then 0 else 23) else 3) else 2
def wlsP (p : Int × Int) : Int × Int := ((p.1 - p.2) / 2, (p.1 + p.2) / 2)

end Go.Proofs.YtpkjkegcdddimaaDoor

namespace Go.Proofs.YtpkjkegcdddimaaDoor
open Go.RowKit

def matsF : List (Int × Int) → Int
  | [] => 0
  | p :: ps => if matE p = 0 then matsF ps else matE p
def matsE (ws : List (Int × Int)) : Int := if 200 < ws.length then 8 else matsF ws
def wlsL (ws : List (Int × Int)) : List (Int × Int) := if matsE ws = 0 then ws.map wlsP else []
theorem matsF_step (ws : List (Int × Int)) (k : Nat) (h : k < ws.length) : matsF (ws.drop k) = if matE (ws.getD k (0, 0)) = 0 then matsF (ws.drop (k + 1)) else matE (ws.getD k (0, 0)) := by
  rw [List.drop_eq_getElem_cons h]
  simp only [matsF, List.getD_eq_getElem?_getD, List.getElem?_eq_getElem h, Option.getD_some]
theorem matE_ok {p : Int × Int} (h : matE p = 0) : -2000000 ≤ p.1 ∧ p.1 ≤ 2000000 ∧ -2000000 ≤ p.2 ∧ p.2 ≤ 2000000 ∧ (p.1 - p.2).tdiv 2 = (p.1 - p.2) / 2 ∧ (p.1 + p.2).tdiv 2 = (p.1 + p.2) / 2 := by
  unfold matE at h
  by_cases h1 : fromB (-2000000) 2000000 [p.1, p.2] = true
  · rw [if_pos h1] at h
    by_cases h2 : p.1 % 2 = p.2 % 2
    · have h3 := from_pair h1
      obtain ⟨m1, e1, e2⟩ := half (x := p.1 - p.2) rfl
      obtain ⟨m2, e3, e4⟩ := half (x := p.1 + p.2) rfl
      omega
    · rw [if_neg h2] at h; omega
  · rw [if_neg h1] at h; omega
def OwnResW (w : World) (E : Int) (ps : List (Int × Int)) (e : Ending) (w' : World) : Prop :=
  (∃ v, e = .returned (.tuple #[v, .int .i64 E]) ∧ w'.ownsRow w.heap.size 79 2 v ps.length (pairCells ps)) ∧ Below w.heap.size w w'
theorem OwnResW.none_ {w w' : World} {E : Int} (h : Below w.heap.size w w') : OwnResW w E [] (.returned (.tuple #[.slice none 0 0, .int .i64 E])) w' := ⟨⟨_, rfl, World.ownsRow_nil _ _ _ _⟩, h⟩

end Go.Proofs.YtpkjkegcdddimaaDoor

