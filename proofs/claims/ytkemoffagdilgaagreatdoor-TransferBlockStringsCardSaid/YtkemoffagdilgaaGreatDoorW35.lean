import Derived.Test.YtkemoffagdilgaaGreatDoorW32
import Derived.Test.YtkemoffagdilgaaGreatDoorW11
import Derived.Test.YtkemoffagdilgaaGreatDoorW33
import Derived.Test.YtkemoffagdilgaaGreatDoorW34
namespace Go.Proofs.YtkemoffagdilgaaGreatDoor
open Go.RowKit

theorem checkCarrier_any (nm : ByteArray) (k sd n d : Int) (w : World) (hs : nm.size ≤ 9223372036854775806)
    (hn0 : -9223372036854775808 ≤ n) (hn1 : n ≤ 9223372036854775807) (hd1 : d ≤ 9223372036854775807) :
    Calls Tryz.prog 27 #[.agg #[.string nm, .int .i64 k, .int .i64 sd, .int .i64 n, .int .i64 d]] w fun e w' => e = .returned (.int .i64 (carrE nm.data.toList k sd n d)) ∧ Below w.heap.size w w' := by
  have C1 := fun W => isName_any nm W hs
  have C2 := fun W => isLowest_any n d hn0 hn1 hd1 W
  rcases (show k < 0 ∨ k = 0 ∨ 0 < k from by omega) with h | rfl | h
  · exact checkCarrier_neg nm k sd n d w _ _ h C1 C2
  · exact checkCarrier_zero nm sd n d w _ _ C1 C2
  · exact checkCarrier_pos nm k sd n d w hs hn0 hn1 hd1 h

theorem refCE_eq (b1 : Bool) (k sd n d : Int) : refCE b1 k sd (lowB n d) n d = firstE [whenE (!b1) 4, whenE (decide (k < 0) || decide (3 ≤ k)) 15, rangeE sd 1 2, whenE ((k != 0) && (sd == 2)) 3, whenE (!(lowB n d)) 3, rangeE n 1 10000, rangeE d 1 10000] := by
  have e1 : (decide (k < 0) || decide (3 ≤ k)) = !inB k 0 2 := by
    by_cases a : k < 0
    · have b : inB k 0 2 = false := by simp [inB]; omega
      rw [b]; simp [a]
    · by_cases c : 3 ≤ k
      · have b : inB k 0 2 = false := by simp [inB]; omega
        rw [b]; simp [c]
      · have b : inB k 0 2 = true := by simp [inB]; omega
        rw [b]; simp [a, c]
  unfold refCE rangeE
  rw [e1]
  cases hl : lowB n d
  · generalize inB d 1 10000 = x6
    generalize inB n 1 10000 = x5
    generalize inB k 0 2 = x1
    generalize inB sd 1 2 = x2
    generalize ((k != 0) && (sd == 2)) = x3
    generalize decide (10000 < d) = x4
    cases b1 <;> cases x1 <;> cases x2 <;> cases x3 <;> first | rfl | simp [firstE, whenE]
  · have ed : inB d 1 10000 = !decide (10000 < d) := by
      have h0 : 0 < d := by
        have := hl
        simp [lowB] at this
        exact this.1
      by_cases a : 10000 < d
      · have b : inB d 1 10000 = false := by simp [inB]; omega
        rw [b]; simp [a]
      · have b : inB d 1 10000 = true := by simp [inB]; omega
        rw [b]; simp [a]
    rw [ed]
    generalize inB n 1 10000 = x5
    generalize inB k 0 2 = x1
    generalize inB sd 1 2 = x2
    generalize ((k != 0) && (sd == 2)) = x3
    generalize decide (10000 < d) = x4
    cases b1 <;> cases x1 <;> cases x2 <;> cases x3 <;> cases x5 <;> cases x4 <;> first | rfl | simp [firstE, whenE]

theorem carrE_zero (l : List UInt8) (k sd n d : Int) (h : carrE l k sd n d = 0) : (1 ≤ n ∧ n ≤ 10000) ∧ (1 ≤ d ∧ d ≤ 10000) := by
  have e : ∀ (a b : Int), firstE [a, b] = 0 → a = 0 ∧ b = 0 := by
    intro a b h
    by_cases ha : a = 0
    · subst ha; simp [firstE] at h; exact ⟨rfl, Classical.byContradiction fun hb => hb (h hb)⟩
    · simp [firstE, ha] at h
  have e2 : ∀ (a : Int) (r : List Int), firstE (a :: r) = 0 → firstE r = 0 := by
    intro a r h
    by_cases ha : a = 0
    · subst ha; simpa [firstE] using h
    · simp [firstE, ha] at h
  have h2 := e _ _ (e2 _ _ (e2 _ _ (e2 _ _ (e2 _ _ (e2 _ _ h)))))
  exact ⟨(rangeE_zero _ _ _).1 h2.1, (rangeE_zero _ _ _).1 h2.2⟩

end Go.Proofs.YtkemoffagdilgaaGreatDoor
