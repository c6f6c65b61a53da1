import Derived.Test.YtkemoffagdilgaaGreatDoorSB3
import Derived.Test.YtkemoffagdilgaaGreatDoorSB2
namespace Go.Proofs.YtkemoffagdilgaaGreatDoor
open Go.RowKit

set_option maxRecDepth 100000 in
set_option maxHeartbeats 8000000 in
theorem codePB_any (s : ByteArray) (w : World) (hl : LaidB w) (hs : s.size ≤ 1000) :
    Calls Tryz.prog 6 #[.string s] w fun e w' => e = .returned (.tuple #[.agg (parB (pcs 32 s.data.toList)).1, .int .i64 (parB (pcs 32 s.data.toList)).2]) ∧ Below w.heap.size w w' := by
  obtain ⟨w1, hw1⟩ : ∃ W, w.alloc (.cells noB 24) = W := ⟨_, rfl⟩
  have U1 : Hid (RB w w1) := by show RB w w1; rw [← hw1]; exact rb_start w
  obtain ⟨ps, hps⟩ : ∃ ps, pcs 32 s.data.toList = ps := ⟨_, rfl⟩
  have C := Lib.hid (blockNum_any s w1 (hl.later U1.out.bel) (by omega) ps hps)
  rw [hps]
  obtain ⟨o, ho⟩ : ∃ o, (parB ps).1 = o := ⟨_, rfl⟩
  obtain ⟨r, hr⟩ : ∃ r, (parB ps).2 = r := ⟨_, rfl⟩
  have HV : Hid (parB ps = (o, r)) := by show _ = _; rw [← ho, ← hr]
  rw [ho, hr]
  have HW1 := Lib.hid hw1
  clear hl hs hps hw1 ho hr
  go_enter Tryz.func6, Tryz.ntmps6
  go_wp2_with fail
  refine Calls.mono (w := w.alloc (.cells noB 24)) (by rw [HW1.out]; exact C.out) ?_
  rintro e w2 ⟨f, ok, rfl, hok1, hok2, hb2⟩
  have U2 := Lib.hid (U1.out.later hb2)
  have HO1 := Lib.hid hok1
  have HO2 := Lib.hid hok2
  have U3 : Hid (RB w (w2.alloc (.cells (bRow f) 51))) := U2.out.later ((Below.refl _ _).alloc (Nat.le_refl _) _)
  have N3 : Hid (Bk (w2.alloc (.cells (bRow f) 51)) w2.heap.size 51 (bRow f)) := Bk.new _ _ _
  have HU2 := Lib.hid U2.out
  clear hb2 hok1 hok2 C U1 HW1 U2
  cases ok
  · have HX : Hid (parB ps = (noB, 7)) := by
      rcases HO2.out (by trivial) with h | ⟨j, hj, h⟩
      · exact parB_len h
      · exact parB_bad j hj h
    obtain ⟨rfl, rfl⟩ : noB = o ∧ 7 = r := by have := HX.out.symm.trans HV.out; exact Prod.mk.injEq .. ▸ this
    clear HX HV HO1 HO2
    have F0 : Hid (Bk ((w2.alloc (.cells (bRow f) 51)).setRow w.heap.size noB) w.heap.size 24 noB ∧ Below w.heap.size w ((w2.alloc (.cells (bRow f) 51)).setRow w.heap.size noB)) := ⟨setRow_heap _ _ _ _ _ _ U3.out.g0.heap, below_setRow U3.out.bel (Nat.le_refl _) _⟩
    go_wp2_with (first
      | (with_reducible refine wpList_store_row rfl 24 (.tmp 2) (.tmp 15) rfl w.heap.size noB rfl rfl 24 noB U3.out.g0.heap blkInfN noB_size noB_one ?_))
    refine bodyPost_ret (v := .tuple #[.agg noB, .int .i64 7]) ?_ rfl ⟨rfl, F0.out.2⟩
    exact results_cell_tmp (fn := Tryz.f6) rfl _ _ w.heap.size 24 noB (0, 0) _ rfl F0.out.1 Tryz.underlying24 rfl blkInfN
  · have HX := parB_good (HO1.out (by trivial)).1 (HO1.out (by trivial)).2.1
    rw [← (HO1.out (by trivial)).2.2] at HX
    clear HO1 HO2
    go_wp2_with fail
    have hlt2 : w.heap.size < w2.heap.size := HU2.out.lt
    obtain ⟨w5, hw5⟩ : ∃ W, (w2.alloc (.cells (bRow f) 51)).alloc (.cells #[.int .i64 (f 0), .int .i64 (f 1), .int .i64 0, .int .i64 0, .int .i64 0, .int .i64 0, .int .i64 0, .int .i64 0, .int .i64 0, .int .i64 0, .int .i64 (f 10)] 24) = W := ⟨_, rfl⟩
    have HD5 : Hid (Bk w5 (w2.heap.size + 1) 24 #[.int .i64 (f 0), .int .i64 (f 1), .int .i64 0, .int .i64 0, .int .i64 0, .int .i64 0, .int .i64 0, .int .i64 0, .int .i64 0, .int .i64 0, .int .i64 (f 10)]) := by show Bk _ _ _ _; rw [← hw5]; simpa using Bk.new (w2.alloc (.cells (bRow f) 51)) 24 #[.int .i64 (f 0), .int .i64 (f 1), .int .i64 0, .int .i64 0, .int .i64 0, .int .i64 0, .int .i64 0, .int .i64 0, .int .i64 0, .int .i64 0, .int .i64 (f 10)]
    have HK5 : Hid (Bk w5 w2.heap.size 51 (bRow f)) := by show Bk _ _ _ _; rw [← hw5]; exact N3.out.alloc _
    have U5 : Hid (RB w w5) := by show RB _ _; rw [← hw5]; exact U3.out.later ((Below.refl _ _).alloc (Nat.le_refl _) _)
    rw [hw5]
    clear hw5 U3 N3
    have hlen8 : Hid (([.int .i64 (f 2), .int .i64 (f 3), .int .i64 (f 4), .int .i64 (f 5), .int .i64 (f 6), .int .i64 (f 7), .int .i64 (f 8), .int .i64 (f 9)] : List Value).length = Nat.min 9 8) := rfl
    have hone : Hid (∀ v ∈ ([.int .i64 (f 2), .int .i64 (f 3), .int .i64 (f 4), .int .i64 (f 5), .int .i64 (f 6), .int .i64 (f 7), .int .i64 (f 8), .int .i64 (f 9)] : List Value), v.oneCell' = true) := by show ∀ v ∈ _, _; simp [Value.oneCell']
    have hsrc : Hid (∀ (j : Nat) (v : Value), ([.int .i64 (f 2), .int .i64 (f 3), .int .i64 (f 4), .int .i64 (f 5), .int .i64 (f 6), .int .i64 (f 7), .int .i64 (f 8), .int .i64 (f 9)] : List Value)[j]? = some v → w5.drew.cell? ((⟨w2.heap.size, 2, none⟩ : Addr).add j) = some v) := by
      intro j v hv
      have hj : j < 8 := (List.getElem?_eq_some_iff.1 hv).1
      have hadd : (⟨w2.heap.size, 2, none⟩ : Addr).add j = ⟨w2.heap.size, 2 + j, none⟩ := by unfold Addr.add; split <;> simp_all
      rw [hadd, HK5.out.drew.cell]
      rcases (show j = 0 ∨ j = 1 ∨ j = 2 ∨ j = 3 ∨ j = 4 ∨ j = 5 ∨ j = 6 ∨ j = 7 by omega) with rfl | rfl | rfl | rfl | rfl | rfl | rfl | rfl <;> exact hv
    go_region_law ((simp only [List.getElem_toArray, List.getElem_cons_succ, List.getElem_cons_zero, Act.put, List.setIfInBounds_toArray, List.set_cons_zero, List.set_cons_succ]); (refine step_if (by rfl) ?_); (refine wp_copy_splice rfl (.tmp 24) (.tmp 25) 40 40 rfl 3 intsUnder intSize (some ⟨w2.heap.size + 1, 2, none⟩) (some ⟨w2.heap.size, 2, none⟩) 8 8 9 9 (by rfl) (by rfl) (w2.heap.size + 1) 2 [.int .i64 (f 0), .int .i64 (f 1), .int .i64 0, .int .i64 0, .int .i64 0, .int .i64 0, .int .i64 0, .int .i64 0, .int .i64 0, .int .i64 0, .int .i64 (f 10)] 24 HD5.out.drew.heap [.int .i64 (f 2), .int .i64 (f 3), .int .i64 (f 4), .int .i64 (f 5), .int .i64 (f 6), .int .i64 (f 7), .int .i64 (f 8), .int .i64 (f 9)] hlen8.out (fun _ => ⟨rfl, _, rfl, hsrc.out⟩) (by simp) hone.out (w2.heap.size + 1) w5 (Below.refl _ _).drew (Nat.le_refl _) ?_); intro w6 hg6 hb6)
    have HK6 : Hid (Bk w6 (w2.heap.size + 1) 24 (bRow f)) := hg6.out
    have HR6 := Lib.hid (U5.out.above hb6 (by omega))
    clear hg6 hb6 hsrc hone hlen8 HD5 HK5 U5
    obtain ⟨E, hE⟩ : ∃ E, errB f = E := ⟨_, rfl⟩
    have CE : Hid (∀ W, Calls Tryz.prog 19 #[.agg (bRow f)] W fun e w' => e = .returned (.int .i64 E) ∧ Below W.heap.size W w') := fun W => by
      have := checkBlock_any (f 0) (f 1) (f 2) (f 3) (f 4) (f 5) (f 6) (f 7) (f 8) (f 9) (f 10) W
      rw [← hE]
      exact this
    rw [hE] at HX
    clear hE
    go_wp2_with (with_reducible refine wpList_load_row rfl 24 (.tmp 6) rfl (w2.heap.size + 1) rfl 24 (bRow f) (0, 0) _ HK6.out.heap Tryz.underlying24 rfl (blkInfR _) ?_)
    refine (CE.out _).mono ?_
    rintro e w8 ⟨rfl, hb8⟩
    have HR8 := Lib.hid (HR6.out.later hb8)
    have HK8 : Hid (Bk w8 (w2.heap.size + 1) 24 (bRow f)) := HK6.out.below hb8 HK6.out.lt
    clear hb8 HK6 HR6 CE
    by_cases hE0 : E = 0
    · subst hE0
      rw [if_pos rfl] at HX
      obtain ⟨rfl, rfl⟩ : bRow f = o ∧ 0 = r := by have := HX.symm.trans HV.out; exact Prod.mk.injEq .. ▸ this
      clear HX HV
      have F0 : Hid (Bk ((w8).setRow w.heap.size (bRow f)) w.heap.size 24 (bRow f) ∧ Below w.heap.size w ((w8).setRow w.heap.size (bRow f))) := ⟨setRow_heap _ _ _ _ _ _ HR8.out.g0.heap, below_setRow HR8.out.bel (Nat.le_refl _) _⟩
      go_wp2_with (first
        | (with_reducible refine wpList_store_row rfl 24 (.tmp 2) (.tmp 33) rfl w.heap.size (bRow f) rfl rfl 24 noB HR8.out.g0.heap (blkInfR _) (bRow_size _) (bRow_one _) ?_)
        | (with_reducible refine wpList_load_row rfl 24 (.tmp 6) rfl (w2.heap.size + 1) rfl 24 (bRow f) (0, 0) _ HK8.out.heap Tryz.underlying24 rfl (blkInfR _) ?_))
      refine bodyPost_ret (v := .tuple #[.agg (bRow f), .int .i64 0]) ?_ rfl ⟨rfl, F0.out.2⟩
      exact results_cell_tmp (fn := Tryz.f6) rfl _ _ w.heap.size 24 (bRow f) (0, 0) _ rfl F0.out.1 Tryz.underlying24 rfl (blkInfR _)
    · rw [if_neg hE0] at HX
      obtain ⟨rfl, rfl⟩ : noB = o ∧ E = r := by have := HX.symm.trans HV.out; exact Prod.mk.injEq .. ▸ this
      have hEn : (E != 0) = true := bne_iff_ne.2 hE0
      clear HX HV hE0
      have F0 : Hid (Bk ((w8).setRow w.heap.size noB) w.heap.size 24 noB ∧ Below w.heap.size w ((w8).setRow w.heap.size noB)) := ⟨setRow_heap _ _ _ _ _ _ HR8.out.g0.heap, below_setRow HR8.out.bel (Nat.le_refl _) _⟩
      go_wp2_with (first
        | (with_reducible refine wpList_store_row rfl 24 (.tmp 2) (.tmp 31) rfl w.heap.size noB rfl rfl 24 noB HR8.out.g0.heap blkInfN noB_size noB_one ?_))
      refine bodyPost_ret (v := .tuple #[.agg noB, .int .i64 E]) ?_ rfl ⟨rfl, F0.out.2⟩
      exact results_cell_tmp (fn := Tryz.f6) rfl _ _ w.heap.size 24 noB (0, 0) _ rfl F0.out.1 Tryz.underlying24 rfl blkInfN

end Go.Proofs.YtkemoffagdilgaaGreatDoor
