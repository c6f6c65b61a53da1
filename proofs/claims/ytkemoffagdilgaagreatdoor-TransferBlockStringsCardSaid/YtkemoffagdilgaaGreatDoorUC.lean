import Derived.Test.YtkemoffagdilgaaGreatDoorW14
import Derived.Test.YtkemoffagdilgaaGreatDoorUA
namespace Go.Proofs.YtkemoffagdilgaaGreatDoor
open Go.RowKit

/-- Integers as cells. -/
def iArr (xs : List Int) : Array Value := (xs.map (Value.int .i64)).toArray
theorem iArr_size (xs : List Int) : (iArr xs).size = xs.length := by simp [iArr]
theorem iArr_at (xs : List Int) (i : Nat) (h : i < xs.length) : (iArr xs)[i]? = some (.int .i64 (xs.getD i 0)) := by
  simp [iArr, List.getElem?_toArray, List.getD_eq_getElem?_getD, List.getElem?_eq_getElem h]
theorem iArr_set (xs : List Int) (i : Nat) (v : Int) : (iArr xs).setIfInBounds i (.int .i64 v) = iArr (xs.set i v) := by
  simp [iArr, List.map_set]
theorem arrR_zero (c : Nat) : arrR c 0 = iArr (List.replicate c 0) := by
  simp [arrR, rowR, repL, iArr]

theorem rd8 (arr : Array Value) (xs : List Int) (w : World) (t : TypeId) (h : Is8 arr xs) : RdI (w.alloc (.cells arr t)) (some ⟨w.heap.size, 0, none⟩) 8 xs := by
  refine ⟨h.len, fun _ => ⟨_, rfl, by simp, fun j hj => ?_⟩⟩
  have hadd : (⟨w.heap.size, 0, none⟩ : Addr).add j = ⟨w.heap.size, j, none⟩ := by unfold Addr.add; split <;> simp_all
  rw [hadd, cell_of_row _ _ j arr _ (0, 0) (heap_alloc_new w _)]
  exact h.at_ j hj

theorem rangesE_smpB (xs : List Int) : rangesE xs (-32767) 32767 = if smpB xs then 0 else 2 := by
  unfold smpB
  rcases rangesE_cases xs (-32767) 32767 with e | e <;> simp [e]

def parE (p k : Int) : Int := if inB p 0 2 && inB k 0 17 then 0 else 2

end Go.Proofs.YtkemoffagdilgaaGreatDoor

namespace Go.Proofs.YtkemoffagdilgaaGreatDoor
open Go.RowKit

theorem cell8 (arr : Array Value) (xs : List Int) (w : World) (t : TypeId) (h : Is8 arr xs) (q : Nat) (hq : q < 8) (a : Int) (ha : xs.getD q 0 = a) :
    (w.alloc (.cells arr t)).cell? ⟨w.heap.size, q, none⟩ = some (.int .i64 a) := by
  rw [cell_of_row _ _ q arr _ (0, 0) (heap_alloc_new w _), h.at_ q hq, ha]

end Go.Proofs.YtkemoffagdilgaaGreatDoor

namespace Go.Proofs.YtkemoffagdilgaaGreatDoor
open Go.RowKit

end Go.Proofs.YtkemoffagdilgaaGreatDoor

namespace Go.Proofs.YtkemoffagdilgaaGreatDoor
open Go.RowKit

theorem own_of_bk {w : World} {base g : Nat} {xs : List Int} (n : Nat) (h : Bk w g 3 (iArr xs)) (hn : xs.length = n) (hb : base ≤ g) (hm : n ≤ 10000000) : w.ownsRow base 3 1 (.slice (some ⟨g, 0, none⟩) n n) n (xs.map (Value.int .i64)) := by
  refine ⟨by simp [hn], .inr ⟨g, n, iArr xs, rfl, hb, h, Nat.le_refl _, by unfold maxLen; omega, by rw [iArr_size]; omega, ?_⟩⟩
  have e : (iArr xs).toList = xs.map (Value.int .i64) := by simp [iArr]
  rw [e, List.take_of_length_le (by simp; omega)]
theorem src_of_bk {w : World} {g : Nat} {xs : List Int} (h : Bk w g 3 (iArr xs)) : ∀ j u, (xs.map (Value.int .i64))[j]? = some u → w.cell? ((⟨g, 0, none⟩ : Addr).add j) = some u := by
  intro j u hu
  have hadd : (⟨g, 0, none⟩ : Addr).add j = ⟨g, j, none⟩ := by unfold Addr.add; split <;> simp_all
  rw [hadd, h.cell]
  simpa [iArr, List.getElem?_toArray] using hu
theorem one_ints (xs : List Int) : ∀ u ∈ xs.map (Value.int .i64), u.oneCell' = true := by
  intro u hu
  obtain ⟨x, _, rfl⟩ := List.mem_map.1 hu
  rfl

theorem src_one (w : World) (v : Value) (t : TypeId) : ∀ j u, [v][j]? = some u → (w.alloc (.cells #[v] t)).cell? ((⟨w.heap.size, 0, none⟩ : Addr).add j) = some u := by
  intro j u hu
  match j, hu with
  | 0, hu =>
    simp at hu
    subst hu
    have hadd : (⟨w.heap.size, 0, none⟩ : Addr).add 0 = ⟨w.heap.size, 0, none⟩ := by unfold Addr.add; split <;> simp_all
    rw [hadd, cell_of_row _ _ 0 #[v] _ (0, 0) (heap_alloc_new w _)]
    rfl
theorem one_one (x : Int) : ∀ u ∈ [Value.int .i64 x], u.oneCell' = true := by
  intro u hu
  simp at hu
  subst hu
  rfl

end Go.Proofs.YtkemoffagdilgaaGreatDoor

