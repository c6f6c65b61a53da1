import Derived.Test.YtkemoffagdilgaaGreatDoorW58
namespace Go.Proofs.YtkemoffagdilgaaGreatDoor
open Go.RowKit

/-- The two rows of ref.Unpacked's own: the result and the constant 'none'. -/
structure RU (w wr : World) : Prop where
  g0 : Bk wr w.heap.size 22 zero8
  g1 : Bk wr (w.heap.size + 1) 22 zero8
  bel : Below w.heap.size w wr
theorem RU.lt {w wr : World} (h : RU w wr) : w.heap.size + 1 < wr.heap.size := h.g1.lt
theorem RU.later {w wr wr' : World} (h : RU w wr) (hb : Below wr.heap.size wr wr') : RU w wr' :=
  ⟨h.g0.below hb (by have := h.lt; omega), h.g1.below hb h.lt, h.bel.trans (hb.mono (by have := h.lt; omega))⟩
theorem RU.above {w wr wr' : World} {B : Nat} (h : RU w wr) (hb : Below B wr wr') (hB : w.heap.size + 2 ≤ B) : RU w wr' :=
  ⟨h.g0.below hb (by omega), h.g1.below hb (by omega), h.bel.trans (hb.mono (by omega))⟩
theorem RU.set_ {w wr : World} (h : RU w wr) (p : Addr) (v : Value) (hB : w.heap.size + 2 ≤ p.block) : RU w (wr.setCell p v) :=
  ⟨h.g0.far p (by omega) v, h.g1.far p (by omega) v, h.bel.setCell (by omega) v⟩
theorem RU.drew {w wr : World} (h : RU w wr) : RU w wr.drew := ⟨h.g0.drew, h.g1.drew, h.bel.drew⟩
theorem ru_start (w : World) : RU w (((w.alloc (.cells zero8 22)).alloc (.cells zero8 22)).setRow (w.heap.size + 1) zero8) := by
  have h1 : Bk ((w.alloc (.cells zero8 22)).alloc (.cells zero8 22)) (w.heap.size + 1) 22 zero8 := by
    simpa using Bk.new (w.alloc (.cells zero8 22)) 22 zero8
  have h0 : Bk ((w.alloc (.cells zero8 22)).alloc (.cells zero8 22)) w.heap.size 22 zero8 := (Bk.new w _ _).alloc _
  have hb : Below (w.heap.size + 1) ((w.alloc (.cells zero8 22)).alloc (.cells zero8 22)) (((w.alloc (.cells zero8 22)).alloc (.cells zero8 22)).setRow (w.heap.size + 1) zero8) := below_setRow (Below.refl _ _) (Nat.le_refl _) _
  exact ⟨h0.below hb (by omega), setRow_heap _ _ _ _ _ _ h1, (((Below.refl _ _).alloc (Nat.le_refl _) _).alloc (by simp) _).trans (hb.mono (by omega))⟩
theorem RU.fin {w wr : World} (h : RU w wr) (cs : Array Value) : Bk (wr.setRow w.heap.size cs) w.heap.size 22 cs ∧ Below w.heap.size w (wr.setRow w.heap.size cs) :=
  ⟨setRow_heap wr w.heap.size _ cs _ _ h.g0, below_setRow h.bel (Nat.le_refl _) cs⟩

end Go.Proofs.YtkemoffagdilgaaGreatDoor
