import Derived.OwnWalkIn
import Derived.RangeFuncCalls
import Derived.Deep.RegionHeld
namespace Go.Proofs.YtjjflbnopphciaaGreatDoor
open Go.RowKit

def onlyN (R : Act → World → Prop) : Exit → Act → World → Prop
  | .normal, a, w => R a w
  | _, _, _ => False

theorem onlyN_lets (R : Act → World → Prop) : ¬ LetsOut (onlyN R) := fun ⟨_, _, h⟩ => h

/-- What goes in the plain walk goes in a round of a loop over a function, the fence wide, where no operation is a defer statement. -/
theorem wpOps_round {r n : Nat} {P : Program} {ops : Array Oper} {R : Act → World → Prop} (hnd : ∀ (i : Nat) (o : Oper), ops[i]? = some o → ∀ c, o.op ≠ .defer c) :
    ∀ (l : List Nat) (a : Act) (w : World), wpOps P ops (onlyN R) l a w → wpOpsIn (Fence.wide.inRound r) n P ops (onlyN R) l a w
  | [], _, _, h => h
  | i :: rest, a, w, h => by
    unfold wpOps at h
    unfold wpOpsIn
    cases ho : ops[i]? with
    | none => simp only [ho] at h ⊢; exact wpOps_round hnd rest a w h
    | some o =>
      simp only [ho] at h ⊢
      split
      · rename_i hw
        simp only [hw, if_true] at h
        rcases h with h | ⟨_, h⟩
        · unfold Oper.wp at h
          unfold Oper.wpIn
          refine ⟨fun _ _ => trivial, ?_⟩
          rw [Oper.semAt_plain _ _ _ (hnd i o ho)]
          generalize (execOp a.eval o).run P w = res at h ⊢
          cases res with
          | ok x w' =>
            cases x <;> simp only [Oper.upon, Oper.uponIn] at h ⊢
            case value v => exact wpOps_round hnd rest _ _ h
            case skip => exact wpOps_round hnd rest _ _ h
            case defer d => exact wpOps_round hnd rest _ _ h
            case enter f args =>
              refine ⟨fun e => by simp [Fence.wide] at e, CallsIn.inRound r (callsIn_wide.2 (Calls.mono h fun e w'' he => ?_))⟩
              cases e with
              | returned v => exact wpOps_round hnd rest _ _ he
              | panicked c => exact he
              | outgrown => exact he
            case row row args =>
              refine ⟨fun e => by simp [Fence.wide] at e, ?_⟩
              intro c cs _
              obtain ⟨v, w'', hr, hs⟩ := h c cs
              exact ⟨v, w'', wpOps_round hnd rest _ _ hr, stepsIn_wide.2 hs⟩
          | halt x w' => cases x <;> simp only [Oper.upon, Oper.uponIn] at h ⊢ <;> exact h
        · exact absurd h (onlyN_lets R)
      · rename_i hw
        simp only [hw] at h
        exact ⟨fun _ _ => trivial, wpOps_round hnd rest _ _ h⟩

theorem region_in_round {r n id : Nat} {P : Program} {ops : Array Oper} {R : Act → World → Prop} {S : World → Prop} {Q : Exit → Act → World → Prop} {a : Act} {w : World} (hm : P.follows .mixedOrders = true)
    (hnd : ∀ (i : Nat) (o : Oper), ops[i]? = some o → ∀ c, o.op ≠ .defer c) (hS : S w.drew) (h : S w.drew → wpAnyH P .any ops (onlyN R) S ops.size (Array.replicate ops.size false) a w.drew)
    (hk : ∀ a' w', R a' w' → Q .normal a' w') : (Code.region id ops true).wpIn (Fence.wide.inRound r) n P Q a w := by
  refine wpIn_mono (wpIn_region_draw (Q := onlyN R) fun t => ?_) (fun e a' w' he => by cases e <;> first | exact hk _ _ he | exact he.elim)
  simp only [Region.schedule, hm, Bool.true_or, if_true]
  exact wpOps_round hnd _ _ _ (wpAny_sound ops.size t _ a _ (wpAny_of_held _ _ _ _ (h hS)))

end Go.Proofs.YtjjflbnopphciaaGreatDoor
