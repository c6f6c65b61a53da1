import Derived.Test.YtkemoffagdilgaaDoorST5
import Derived.Test.YtkemoffagdilgaaDoorW59
import Derived.Test.YtkemoffagdilgaaDoorW35
namespace Go.Proofs.YtkemoffagdilgaaDoor
open Go.RowKit

theorem own_str {w : World} {base n : Nat} {t : TypeId} {v : Value} {xs : List Value} (h : w.ownsRow base t 1 v n xs) (hl : xs.length = n) (hn : 0 < n) :
    ∃ g cp, v = .slice (some ⟨g, 0, none⟩) n cp ∧ base ≤ g ∧ g < w.heap.size ∧ ∀ k x, xs[k]? = some x → w.cell? ⟨g, k, none⟩ = some x := by
  rcases h.2 with ⟨_, e⟩ | ⟨g, cap, cur, e, hb, hg, h1, h2, h3, h4⟩
  · omega
  · refine ⟨g, cap, e, hb, (Array.getElem?_eq_some_iff.1 hg).1, fun k x hx => ?_⟩
    have hk : k < n := by have := (List.getElem?_eq_some_iff.1 hx).1; omega
    rw [cell_of_row w g k cur _ (0, 0) hg, ← Array.getElem?_toList]
    have e1 : (cur.toList.take (n * 1))[k]? = some x := by rw [h4]; exact hx
    rw [List.getElem?_take, if_pos (by omega)] at e1
    exact e1

theorem cut_form (s : ByteArray) (c : UInt8) (cI : Int) (hcI : ((c.toNat : Nat) : Int) = cI) (w : World) (hs : s.size ≤ 1000000000) (ps : List (List UInt8)) (n : Nat) (hps : pcs c s.data.toList = ps) (hn : ps.length = n) :
    Calls Tryd.prog 20 #[.string s, .int .u8 cI] w fun e w' => ∃ g cp, e = .returned (.slice (some ⟨g, 0, none⟩) n cp) ∧ w.heap.size ≤ g ∧ g < w'.heap.size ∧ (∀ k x, ps[k]? = some x → w'.cell? ⟨g, k, none⟩ = some (sv x)) ∧ Below w.heap.size w w' := by
  refine (cut_any s c cI hcI w hs).mono ?_
  rintro e w' ⟨⟨v, rfl, ho⟩, hb⟩
  rw [hps, hn] at ho
  have h0 : 0 < n := by have := List.length_pos_iff.2 (pcs_ne c s.data.toList); rw [hps, hn] at this; exact this
  obtain ⟨g, cp, rfl, h1, h2, h3⟩ := own_str ho (by rw [List.length_map, hn]) h0
  exact ⟨g, cp, rfl, h1, h2, fun k x hx => h3 k _ (by rw [List.getElem?_map, hx]; rfl), hb⟩

/-- The words for the kinds. -/
def kwD : ByteArray := ⟨#[100, 105, 115, 99]⟩
def kwC : ByteArray := ⟨#[99, 121, 108, 105, 110, 100, 101, 114]⟩
def kwT : ByteArray := ⟨#[116, 97, 112, 101]⟩
def kindP (b : ByteArray) : Int := if b = kwD then 0 else if b = kwC then 1 else if b = kwT then 2 else -1

theorem words_any (w : World) :
    Calls Tryd.prog 21 #[] w fun e w' => e = .returned (.slice (some ⟨w.heap.size, 0, none⟩) 3 3) ∧ Bk w' w.heap.size 9 #[.string kwD, .string kwC, .string kwT] ∧ Below w.heap.size w w' := by
  go_enter Tryd.func21, Tryd.ntmps21
  go_wp2
  go_ret
  exact ⟨rfl, Bk.new _ _ _, (Below.refl _ _).alloc (Nat.le_refl _) _⟩

/-- A carrier's fields in memory. -/
abbrev cRow (nm : ByteArray) (k sd n d : Int) : Array Value := #[.string nm, .int .i64 k, .int .i64 sd, .int .i64 n, .int .i64 d]
abbrev noC : Array Value := cRow ⟨#[]⟩ 0 0 0 0
theorem carInfo (nm : ByteArray) (k sd n d : Int) : (Tryd.prog.info? 25).map (·.size) = some (cRow nm k sd n d).size := by
  show _ = some 5
  kernel_rfl
theorem carInfoN : (Tryd.prog.info? 25).map (·.size) = some noC.size := carInfo _ _ _ _ _
theorem cRow_one (nm : ByteArray) (k sd n d : Int) : (cRow nm k sd n d).all (·.oneCell') = true := by simp [cRow, Value.oneCell']
theorem noC_one : noC.all (·.oneCell') = true := cRow_one _ _ _ _ _
theorem noC_size : noC.size = noC.size := rfl

/-- The rows of ref.ParseCarrier's own: the result and 'none'. -/
structure RC (w wr : World) : Prop where
  g0 : Bk wr w.heap.size 25 noC
  g1 : Bk wr (w.heap.size + 1) 25 noC
  bel : Below w.heap.size w wr
theorem RC.lt {w wr : World} (h : RC w wr) : w.heap.size + 1 < wr.heap.size := h.g1.lt
theorem RC.later {w wr wr' : World} (h : RC w wr) (hb : Below wr.heap.size wr wr') : RC w wr' :=
  ⟨h.g0.below hb (by have := h.lt; omega), h.g1.below hb h.lt, h.bel.trans (hb.mono (by have := h.lt; omega))⟩
theorem RC.above {w wr wr' : World} {B : Nat} (h : RC w wr) (hb : Below B wr wr') (hB : w.heap.size + 2 ≤ B) : RC w wr' :=
  ⟨h.g0.below hb (by omega), h.g1.below hb (by omega), h.bel.trans (hb.mono (by omega))⟩
theorem RC.drew {w wr : World} (h : RC w wr) : RC w wr.drew := ⟨h.g0.drew, h.g1.drew, h.bel.drew⟩
theorem rc_start (w : World) : RC w ((w.alloc (.cells noC 25)).alloc (.cells noC 25)) := by
  have h1 : Bk ((w.alloc (.cells noC 25)).alloc (.cells noC 25)) (w.heap.size + 1) 25 noC := by
    simpa using Bk.new (w.alloc (.cells noC 25)) 25 noC
  exact ⟨(Bk.new w _ _).alloc _, h1, ((Below.refl _ _).alloc (Nat.le_refl _) _).alloc (by simp) _⟩
theorem RC.fin {w wr : World} (h : RC w wr) (cs : Array Value) : Bk (wr.setRow w.heap.size cs) w.heap.size 25 cs ∧ Below w.heap.size w (wr.setRow w.heap.size cs) :=
  ⟨setRow_heap wr w.heap.size _ cs _ _ h.g0, below_setRow h.bel (Nat.le_refl _) cs⟩

set_option maxRecDepth 100000 in
set_option maxHeartbeats 2000000 in
theorem refPC_1 (s : ByteArray) (n : Nat) (w : World) (hs : s.size ≤ 1000000) (hn : (pcs 32 s.data.toList).length = n) (h4 : n ≠ 4) :
    Calls Tryd.prog 7 #[.string s] w fun e w' => e = .returned (.tuple #[.agg noC, .int .i64 7]) ∧ Below w.heap.size w w' := by
  have C20 : Hid (∀ W, _) := Lib.hid fun W => cut_form s 32 32 rfl W (by omega) _ n rfl hn
  obtain ⟨wA, hwA⟩ : ∃ wA, (w.alloc (.cells noC 25)).alloc (.cells noC 25) = wA := ⟨_, rfl⟩
  have U0 : Hid (RC w wA) := by show RC w wA; rw [← hwA]; exact rc_start w
  have hne : ((n : Int) != 4) = true := bne_iff_ne.2 (by omega)
  have HWA := Lib.hid hwA
  clear hn h4 hwA
  go_enter Tryd.func7, Tryd.ntmps7
  go_wp2_with fail
  refine Calls.mono (w := (w.alloc (.cells noC 25)).alloc (.cells noC 25)) (C20.out _) ?_
  rw [HWA.out]
  rintro e w2 ⟨g, cp, rfl, hg1, hg2, -, hb2⟩
  have U2 := Lib.hid (U0.out.later hb2)
  have F0 := Lib.hid (U2.out.fin noC)
  clear hb2
  go_wp2_with (first
    | (with_reducible refine wpList_load_row rfl 25 (.tmp 4) rfl (w.heap.size + 1) rfl 25 noC (0, 0) _ U2.out.g1.heap Tryd.underlying25 rfl carInfoN ?_)
    | (with_reducible refine wpList_store_row rfl 25 (.tmp 2) (.tmp 27) rfl w.heap.size noC rfl rfl 25 noC U2.out.g0.heap carInfoN noC_size noC_one ?_))
  refine bodyPost_ret (v := .tuple #[.agg noC, .int .i64 7]) ?_ rfl ⟨rfl, F0.out.2⟩
  exact results_cell_tmp (fn := Tryd.f7) rfl _ _ w.heap.size 25 noC (0, 0) _ rfl F0.out.1 Tryd.underlying25 rfl carInfoN

end Go.Proofs.YtkemoffagdilgaaDoor
