import Derived.Test.YtepjnkmmielamaaDoorW58
namespace Go.Proofs.YtepjnkmmielamaaDoor
open Go.RowKit

/-- The two rows of ref.Unpacked's own: the result and the constant 'none'. -/
structure RU (w wr : World) : Prop where
  g0 : Bk wr w.heap.size 35 zero8
  g1 : Bk wr (w.heap.size + 1) 35 zero8
  bel : Below w.heap.size w wr
theorem RU.lt {w wr : World} (h : RU w wr) : w.heap.size + 1 < wr.heap.size := h.g1.lt
theorem RU.later {w wr wr' : World} (h : RU w wr) (hb : Below wr.heap.size wr wr') : RU w wr' :=
  ⟨h.g0.below hb (by have := h.lt; omega), h.g1.below hb h.lt, h.bel.trans (hb.mono (by have := h.lt; omega))⟩
theorem RU.above {w wr wr' : World} {B : Nat} (h : RU w wr) (hb : Below B wr wr') (hB : w.heap.size + 2 ≤ B) : RU w wr' :=
  ⟨h.g0.below hb (by omega), h.g1.below hb (by omega), h.bel.trans (hb.mono (by omega))⟩
theorem RU.set_ {w wr : World} (h : RU w wr) (p : Addr) (v : Value) (hB : w.heap.size + 2 ≤ p.block) : RU w (wr.setCell p v) :=
  ⟨h.g0.far p (by omega) v, h.g1.far p (by omega) v, h.bel.setCell (by omega) v⟩
theorem RU.drew {w wr : World} (h : RU w wr) : RU w wr.drew := ⟨h.g0.drew, h.g1.drew, h.bel.drew⟩
theorem ru_start (w : World) : RU w (((w.alloc (.cells zero8 35)).alloc (.cells zero8 35)).setRow (w.heap.size + 1) zero8) := by
  have h1 : Bk ((w.alloc (.cells zero8 35)).alloc (.cells zero8 35)) (w.heap.size + 1) 35 zero8 := by
    simpa using Bk.new (w.alloc (.cells zero8 35)) 35 zero8
  have h0 : Bk ((w.alloc (.cells zero8 35)).alloc (.cells zero8 35)) w.heap.size 35 zero8 := (Bk.new w _ _).alloc _
  have hb : Below (w.heap.size + 1) ((w.alloc (.cells zero8 35)).alloc (.cells zero8 35)) (((w.alloc (.cells zero8 35)).alloc (.cells zero8 35)).setRow (w.heap.size + 1) zero8) := below_setRow (Below.refl _ _) (Nat.le_refl _) _
  exact ⟨h0.below hb (by omega), setRow_heap _ _ _ _ _ _ h1, (((Below.refl _ _).alloc (Nat.le_refl _) _).alloc (by simp) _).trans (hb.mono (by omega))⟩
theorem RU.fin {w wr : World} (h : RU w wr) (cs : Array Value) : Bk (wr.setRow w.heap.size cs) w.heap.size 35 cs ∧ Below w.heap.size w (wr.setRow w.heap.size cs) :=
  ⟨setRow_heap wr w.heap.size _ cs _ _ h.g0, below_setRow h.bel (Nat.le_refl _) cs⟩

set_option maxRecDepth 100000 in
set_option maxHeartbeats 4000000 in
theorem refUnp_head (A : Option Addr) (n c : Nat) (l : List Int) (r : Int) (w : World) (hrd : RdI w A n l) (hn : n ≤ 1000000) (hr : headE n l = r) (hne : r ≠ 0) :
    Calls Tryd.prog 53 #[.slice A n c] w fun e w' => e = .returned (.tuple #[.agg zero8, .int .i64 r]) ∧ Below w.heap.size w w' := by
  have HR := Lib.hid hrd
  have HZ8 := Lib.hid (is8_iArr [0, 0, 0, 0, 0, 0, 0, 0] rfl)
  rw [← zero8_iArr] at HZ8
  have hX : Bk ((w.alloc (.cells zero8 35)).alloc (.cells zero8 35)) (w.heap.size + 1) 35 zero8 := by
    simpa using Bk.new (w.alloc (.cells zero8 35)) 35 zero8
  have HX := Lib.hid hX
  obtain ⟨wA, hwA⟩ : ∃ wA, ((w.alloc (.cells zero8 35)).alloc (.cells zero8 35)).setRow (w.heap.size + 1) zero8 = wA := ⟨_, rfl⟩
  have U0 : Hid (RU w wA) := by show RU w wA; rw [← hwA]; exact ru_start w
  have HWA := Lib.hid hwA
  have F0 := Lib.hid (U0.out.fin zero8)
  have CA : Hid (∀ W, RdI W A n l → Calls Tryd.prog 54 #[.slice A n c] W fun e w' => e = .returned (.bool (b01 l)) ∧ W = w') := fun W h => areBits_any A n c l W h hn
  have hre := rangesE_b01 l
  clear hwA hX hrd
  by_cases h3 : (3000 : Int) < n
  · have hr8 : r = 8 := by rw [← hr]; unfold headE whenE; simp [firstE, h3]
    subst hr8
    clear hr hne hre
    go_enter Tryd.func53, Tryd.ntmps53
    go_wp2_with (first
      | (with_reducible refine wpList_store_row rfl 35 (.tmp 4) (.tmp 14) rfl (w.heap.size + 1) zero8 rfl rfl 35 zero8 HX.out.heap HZ8.out.info rfl HZ8.out.one ?_; rw [HWA.out])
      | (with_reducible refine wpList_load_row rfl 35 (.tmp 4) rfl (w.heap.size + 1) rfl 35 zero8 (0, 0) _ U0.out.g1.heap arrUnder rfl HZ8.out.info ?_)
      | (with_reducible refine wpList_store_row rfl 35 (.tmp 2) (.tmp 18) rfl w.heap.size zero8 rfl rfl 35 zero8 U0.out.g0.heap HZ8.out.info rfl HZ8.out.one ?_))
    refine bodyPost_ret (v := .tuple #[.agg zero8, .int .i64 8]) ?_ rfl ⟨rfl, F0.out.2⟩
    exact results_cell_tmp (fn := Tryd.f53) rfl _ _ w.heap.size 35 zero8 (0, 0) _ rfl F0.out.1 arrUnder rfl HZ8.out.info
  · obtain ⟨b, hb⟩ : ∃ b, b01 l = b := ⟨_, rfl⟩
    rw [hb] at CA hre
    cases b
    · have hr2 : r = 2 := by rw [← hr]; unfold headE whenE; rw [hre]; simp [firstE, h3]
      subst hr2
      clear hr hne hre hb
      go_enter Tryd.func53, Tryd.ntmps53
      go_wp2_with (first
        | (with_reducible refine wpList_store_row rfl 35 (.tmp 4) (.tmp 14) rfl (w.heap.size + 1) zero8 rfl rfl 35 zero8 HX.out.heap HZ8.out.info rfl HZ8.out.one ?_; rw [HWA.out])
        | (go_at_call 54; refine (CA.out _ (HR.out.below U0.out.bel)).mono ?_; rintro e w' ⟨rfl, rfl⟩)
        | (with_reducible refine wpList_load_row rfl 35 (.tmp 4) rfl (w.heap.size + 1) rfl 35 zero8 (0, 0) _ U0.out.g1.heap arrUnder rfl HZ8.out.info ?_)
        | (with_reducible refine wpList_store_row rfl 35 (.tmp 2) (.tmp 22) rfl w.heap.size zero8 rfl rfl 35 zero8 U0.out.g0.heap HZ8.out.info rfl HZ8.out.one ?_))
      refine bodyPost_ret (v := .tuple #[.agg zero8, .int .i64 2]) ?_ rfl ⟨rfl, F0.out.2⟩
      exact results_cell_tmp (fn := Tryd.f53) rfl _ _ w.heap.size 35 zero8 (0, 0) _ rfl F0.out.1 arrUnder rfl HZ8.out.info
    · have h7 : (n : Int) < 7 := by
        rcases Int.lt_or_le (n : Int) 7 with h | h
        · exact h
        · exfalso; apply hne; rw [← hr]; unfold headE whenE; rw [hre]; simp [firstE, h3]; omega
      have hr10 : r = 10 := by rw [← hr]; unfold headE whenE; rw [hre]; simp [firstE, h3, h7]
      subst hr10
      clear hr hne hre hb
      go_enter Tryd.func53, Tryd.ntmps53
      go_wp2_with (first
        | (with_reducible refine wpList_store_row rfl 35 (.tmp 4) (.tmp 14) rfl (w.heap.size + 1) zero8 rfl rfl 35 zero8 HX.out.heap HZ8.out.info rfl HZ8.out.one ?_; rw [HWA.out])
        | (go_at_call 54; refine (CA.out _ (HR.out.below U0.out.bel)).mono ?_; rintro e w' ⟨rfl, rfl⟩)
        | (with_reducible refine wpList_load_row rfl 35 (.tmp 4) rfl (w.heap.size + 1) rfl 35 zero8 (0, 0) _ U0.out.g1.heap arrUnder rfl HZ8.out.info ?_)
        | (with_reducible refine wpList_store_row rfl 35 (.tmp 2) (.tmp 26) rfl w.heap.size zero8 rfl rfl 35 zero8 U0.out.g0.heap HZ8.out.info rfl HZ8.out.one ?_))
      refine bodyPost_ret (v := .tuple #[.agg zero8, .int .i64 10]) ?_ rfl ⟨rfl, F0.out.2⟩
      exact results_cell_tmp (fn := Tryd.f53) rfl _ _ w.heap.size 35 zero8 (0, 0) _ rfl F0.out.1 arrUnder rfl HZ8.out.info

end Go.Proofs.YtepjnkmmielamaaDoor
