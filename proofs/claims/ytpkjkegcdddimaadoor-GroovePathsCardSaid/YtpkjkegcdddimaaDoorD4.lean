import Derived.Test.YtpkjkegcdddimaaDoorGD
import Derived.Test.YtpkjkegcdddimaaDoorGQ
namespace Go.Proofs.YtpkjkegcdddimaaDoor
open Go.RowKit

theorem rngInfo : (Tryd.prog.info? 37).map (fun i => (i.zero, i.size, i.bytes)) = some (some (.agg #[.int .i64 0, .int .i64 0]), 2, 16) := by kernel_rfl
def OwnResR (w : World) (E : Int) (ps : List (Int × Int)) (e : Ending) (w' : World) : Prop :=
  (∃ v, e = .returned (.tuple #[v, .int .i64 E]) ∧ w'.ownsRow w.heap.size 37 2 v ps.length (pairCells ps)) ∧ Below w.heap.size w w'
theorem OwnResR.none_ {w w' : World} {E : Int} (h : Below w.heap.size w w') : OwnResR w E [] (.returned (.tuple #[.slice none 0 0, .int .i64 E])) w' := ⟨⟨_, rfl, World.ownsRow_nil _ _ _ _⟩, h⟩
theorem own_form {w : World} {base size n : Nat} {t : TypeId} {v : Value} {xs : List Value} (h : w.ownsRow base t size v n xs) : ∃ A cap, v = .slice A n cap ∧ (0 < n → ∃ g, A = some ⟨g, 0, none⟩) := by
  rcases h.2 with ⟨rfl, rfl⟩ | ⟨g, cap, cur, rfl, _⟩
  · exact ⟨none, 0, rfl, fun h => absurd h (by omega)⟩
  · exact ⟨_, cap, rfl, fun _ => ⟨g, rfl⟩⟩
theorem crF_skip {rows : List (List Int)} {path : List Int} {limit : Int} {k : Nat} (h : valAt rows path k ≤ limit) : crF rows path limit (k + 1) = crF rows path limit k := if_pos h
theorem crF_join {rows : List (List Int)} {path : List Int} {limit : Int} {k q : Nat} (h : ¬ valAt rows path k ≤ limit) (hq : (crF rows path limit k).length = q + 1) (he : ((crF rows path limit k).getD q (0, 0)).2 = (k : Int) - 1) : crF rows path limit (k + 1) = (crF rows path limit k).set q (((crF rows path limit k).getD q (0, 0)).1, (k : Int)) := by
  have e : (crF rows path limit k).length - 1 = q := by omega
  conv => lhs; unfold crF
  rw [if_neg h, e, if_pos ⟨by omega, he⟩]
theorem crF_apart {rows : List (List Int)} {path : List Int} {limit : Int} {k q : Nat} (h : ¬ valAt rows path k ≤ limit) (hq : (crF rows path limit k).length = q + 1) (he : ¬ ((crF rows path limit k).getD q (0, 0)).2 = (k : Int) - 1) : crF rows path limit (k + 1) = crF rows path limit k ++ [((k : Int), (k : Int))] := by
  have e : (crF rows path limit k).length - 1 = q := by omega
  conv => lhs; unfold crF
  rw [if_neg h, e, if_neg (fun hh => he hh.2)]
theorem crF_first {rows : List (List Int)} {path : List Int} {limit : Int} {k : Nat} (h : ¬ valAt rows path k ≤ limit) (hq : (crF rows path limit k).length = 0) : crF rows path limit (k + 1) = crF rows path limit k ++ [((k : Int), (k : Int))] := by
  conv => lhs; unfold crF
  rw [if_neg h, if_neg (fun hh => by omega)]

def crkE (rows : List (List Int)) (b : Int) (n : Nat) (path : List Int) (limit : Int) : Int := if cstE rows b n path = 0 then (if 0 ≤ limit ∧ limit ≤ 255 then 0 else 2) else cstE rows b n path
def crkL (rows : List (List Int)) (b : Int) (n : Nat) (path : List Int) (limit : Int) : List (Int × Int) := if crkE rows b n path limit = 0 then crF rows path limit n else []
end Go.Proofs.YtpkjkegcdddimaaDoor
