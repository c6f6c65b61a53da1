import Derived.Test.YtkemoffagdilgaaGreatDoorST5
import Derived.Test.YtkemoffagdilgaaGreatDoorW59
import Derived.Test.YtkemoffagdilgaaGreatDoorW35
namespace Go.Proofs.YtkemoffagdilgaaGreatDoor
open Go.RowKit

theorem own_str {w : World} {base n : Nat} {t : TypeId} {v : Value} {xs : List Value} (h : w.ownsRow base t 1 v n xs) (hl : xs.length = n) (hn : 0 < n) :
    ∃ g cp, v = .slice (some ⟨g, 0, none⟩) n cp ∧ base ≤ g ∧ g < w.heap.size ∧ ∀ k x, xs[k]? = some x → w.cell? ⟨g, k, none⟩ = some x := by
  rcases h.2 with ⟨_, e⟩ | ⟨g, cap, cur, e, hb, hg, h1, h2, h3, h4⟩
  · omega
  · refine ⟨g, cap, e, hb, (Array.getElem?_eq_some_iff.1 hg).1, fun k x hx => ?_⟩
    have hk : k < n := by have := (List.getElem?_eq_some_iff.1 hx).1; omega
    rw [cell_of_row w g k cur _ (0, 0) hg, ← Array.getElem?_toList]
    have e1 : (cur.toList.take (n * 1))[k]? = some x := by rw [h4]; exact hx
    rw [List.getElem?_take, if_pos (by omega)] at e1
    exact e1

theorem cut_form (s : ByteArray) (c : UInt8) (cI : Int) (hcI : ((c.toNat : Nat) : Int) = cI) (w : World) (hs : s.size ≤ 1000000000) (ps : List (List UInt8)) (n : Nat) (hps : pcs c s.data.toList = ps) (hn : ps.length = n) :
    Calls Tryz.prog 20 #[.string s, .int .u8 cI] w fun e w' => ∃ g cp, e = .returned (.slice (some ⟨g, 0, none⟩) n cp) ∧ w.heap.size ≤ g ∧ g < w'.heap.size ∧ (∀ k x, ps[k]? = some x → w'.cell? ⟨g, k, none⟩ = some (sv x)) ∧ Below w.heap.size w w' := by
  refine (cut_any s c cI hcI w hs).mono ?_
  rintro e w' ⟨⟨v, rfl, ho⟩, hb⟩
  rw [hps, hn] at ho
  have h0 : 0 < n := by have := List.length_pos_iff.2 (pcs_ne c s.data.toList); rw [hps, hn] at this; exact this
  obtain ⟨g, cp, rfl, h1, h2, h3⟩ := own_str ho (by rw [List.length_map, hn]) h0
  exact ⟨g, cp, rfl, h1, h2, fun k x hx => h3 k _ (by rw [List.getElem?_map, hx]; rfl), hb⟩

/-- The words for the kinds. -/
def kwD : ByteArray := ⟨#[100, 105, 115, 99]⟩
def kwC : ByteArray := ⟨#[99, 121, 108, 105, 110, 100, 101, 114]⟩
def kwT : ByteArray := ⟨#[116, 97, 112, 101]⟩
def kindP (b : ByteArray) : Int := if b = kwD then 0 else if b = kwC then 1 else if b = kwT then 2 else -1

/-- A carrier's fields in memory. -/
abbrev cRow (nm : ByteArray) (k sd n d : Int) : Array Value := #[.string nm, .int .i64 k, .int .i64 sd, .int .i64 n, .int .i64 d]
abbrev noC : Array Value := cRow ⟨#[]⟩ 0 0 0 0
theorem carInfo (nm : ByteArray) (k sd n d : Int) : (Tryz.prog.info? 39).map (·.size) = some (cRow nm k sd n d).size := by
  show _ = some 5
  kernel_rfl
theorem carInfoN : (Tryz.prog.info? 39).map (·.size) = some noC.size := carInfo _ _ _ _ _
theorem cRow_one (nm : ByteArray) (k sd n d : Int) : (cRow nm k sd n d).all (·.oneCell') = true := by simp [cRow, Value.oneCell']
theorem noC_one : noC.all (·.oneCell') = true := cRow_one _ _ _ _ _
theorem noC_size : noC.size = noC.size := rfl

/-- The rows of ref.ParseCarrier's own: the result and 'none'. -/
structure RC (w wr : World) : Prop where
  g0 : Bk wr w.heap.size 39 noC
  g1 : Bk wr (w.heap.size + 1) 39 noC
  bel : Below w.heap.size w wr
theorem RC.lt {w wr : World} (h : RC w wr) : w.heap.size + 1 < wr.heap.size := h.g1.lt
theorem RC.later {w wr wr' : World} (h : RC w wr) (hb : Below wr.heap.size wr wr') : RC w wr' :=
  ⟨h.g0.below hb (by have := h.lt; omega), h.g1.below hb h.lt, h.bel.trans (hb.mono (by have := h.lt; omega))⟩
theorem RC.above {w wr wr' : World} {B : Nat} (h : RC w wr) (hb : Below B wr wr') (hB : w.heap.size + 2 ≤ B) : RC w wr' :=
  ⟨h.g0.below hb (by omega), h.g1.below hb (by omega), h.bel.trans (hb.mono (by omega))⟩
theorem RC.drew {w wr : World} (h : RC w wr) : RC w wr.drew := ⟨h.g0.drew, h.g1.drew, h.bel.drew⟩
theorem rc_start (w : World) : RC w ((w.alloc (.cells noC 39)).alloc (.cells noC 39)) := by
  have h1 : Bk ((w.alloc (.cells noC 39)).alloc (.cells noC 39)) (w.heap.size + 1) 39 noC := by
    simpa using Bk.new (w.alloc (.cells noC 39)) 39 noC
  exact ⟨(Bk.new w _ _).alloc _, h1, ((Below.refl _ _).alloc (Nat.le_refl _) _).alloc (by simp) _⟩
theorem RC.fin {w wr : World} (h : RC w wr) (cs : Array Value) : Bk (wr.setRow w.heap.size cs) w.heap.size 39 cs ∧ Below w.heap.size w (wr.setRow w.heap.size cs) :=
  ⟨setRow_heap wr w.heap.size _ cs _ _ h.g0, below_setRow h.bel (Nat.le_refl _) cs⟩

end Go.Proofs.YtkemoffagdilgaaGreatDoor
