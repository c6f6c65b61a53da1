import Derived.Test.YtkemoffagdilgaaGreatDoorUE
import Derived.Test.YtkemoffagdilgaaGreatDoorW10
namespace Go.Proofs.YtkemoffagdilgaaGreatDoor
open Go.RowKit

set_option maxRecDepth 100000 in
set_option maxHeartbeats 2000000 in
theorem refPB_1 (s : ByteArray) (n : Nat) (w : World) (hs : s.size ≤ 1000000) (hn : (pcs 32 s.data.toList).length = n) (h4 : n ≠ 11) :
    Calls Tryz.prog 7 #[.string s] w fun e w' => e = .returned (.tuple #[.agg noB, .int .i64 7]) ∧ Below w.heap.size w w' := by
  have C20 : Hid (∀ W, _) := Lib.hid fun W => cut_form s 32 32 rfl W (by omega) _ n rfl hn
  obtain ⟨wA, hwA⟩ : ∃ wA, w.alloc (.cells noB 24) = wA := ⟨_, rfl⟩
  have U0 : Hid (RB w wA) := by show RB w wA; rw [← hwA]; exact rb_start w
  have HWA := Lib.hid hwA
  have hne : ((n : Int) != 11) = true := bne_iff_ne.2 (by omega)
  clear hn h4 hwA
  go_enter Tryz.func7, Tryz.ntmps7
  go_wp2_with fail
  refine Calls.mono (w := w.alloc (.cells noB 24)) (C20.out _) ?_
  rw [HWA.out]
  rintro e w2 ⟨g, cp, rfl, hg1, hg2, -, hb2⟩
  have U2 := Lib.hid (U0.out.later hb2)
  have F0 := Lib.hid (U2.out.fin noB)
  clear hb2
  go_wp2_with (first
    | (with_reducible refine wpList_store_row rfl 24 (.tmp 2) (.tmp 16) rfl w.heap.size noB rfl rfl 24 noB U2.out.g0.heap blkInfN noB_size noB_one ?_))
  refine bodyPost_ret (v := .tuple #[.agg noB, .int .i64 7]) ?_ rfl ⟨rfl, F0.out.2⟩
  exact results_cell_tmp (fn := Tryz.f7) rfl _ _ w.heap.size 24 noB (0, 0) _ rfl F0.out.1 Tryz.underlying24 rfl blkInfN

set_option maxRecDepth 100000 in
set_option maxHeartbeats 8000000 in
theorem refPB_2 (s : ByteArray) (ps : List (List UInt8)) (w : World) (hs : s.size ≤ 1000000) (hn : pcs 32 s.data.toList = ps) (hl : ps.length = 11) (o : Array Value) (r : Int) (hV : parB ps = (o, r)) :
    Calls Tryz.prog 7 #[.string s] w fun e w' => e = .returned (.tuple #[.agg o, .int .i64 r]) ∧ Below w.heap.size w w' := by
  have C20 : Hid (∀ W, _) := Lib.hid fun W => cut_form s 32 32 rfl W (by omega) ps 11 hn hl
  obtain ⟨wA, hwA⟩ : ∃ wA, w.alloc (.cells noB 24) = wA := ⟨_, rfl⟩
  have U0 : Hid (RB w wA) := by show RB w wA; rw [← hwA]; exact rb_start w
  have HWA := Lib.hid hwA
  have HV := Lib.hid hV
  have HLN := Lib.hid hl
  have htz : ∀ i, (tB ps i).length ≤ 1000000 := fun i => by
    unfold tB
    rw [List.getD_eq_getElem?_getD]
    cases h : ps[i]? with
    | none => simp
    | some p =>
      have := pcs_sz' 32 s.data.toList p (by rw [hn]; exact List.mem_of_getElem? h)
      have e : s.data.toList.length = s.size := by simp
      simp only [Option.getD_some]
      omega
  have HTZ := Lib.hid htz
  clear hn hwA hV hl htz
  go_enter Tryz.func7, Tryz.ntmps7
  go_wp2_with fail
  refine Calls.mono (w := w.alloc (.cells noB 24)) (C20.out _) ?_
  rw [HWA.out]
  rintro e w2 ⟨g, cp, rfl, hg1, hg2, hc, hb2⟩
  have U2 := Lib.hid (U0.out.later hb2)
  have HC := Lib.hid hc
  clear hb2 hc
  go_wp2
  have K0 : Hid (Bk (w2.alloc (.cells noB 51)) w2.heap.size 51 (bRow (upB ps 0))) := by show Bk _ _ _ _; rw [bRow_zero]; exact Bk.new _ _ _
  have B0 : Hid (Below w2.heap.size w2 (w2.alloc (.cells noB 51))) := (Below.refl _ _).alloc (Nat.le_refl _) _
  obtain ⟨w3, hw3⟩ : ∃ W, w2.alloc (.cells noB 51) = W := ⟨_, rfl⟩
  rw [hw3]
  rw [hw3] at K0 B0
  clear hw3
  go_loopw [6, 7, 8] (fun k _ _ wr => ∃ j : Nat, j ≤ 11 ∧ k = .int .i64 (j : Int) ∧ Hid (Bk wr w2.heap.size 51 (bRow (upB ps j))) ∧ Hid (Below w2.heap.size w2 wr) ∧ Hid (∀ m, m < j → goodB ps m)) (fun k _ _ _ => 11 - (intOf k).toNat)
  case atStart => exact ⟨0, by omega, rfl, K0.out, B0.out, fun m h => by omega⟩
  case round =>
    clear K0 B0
    obtain ⟨j, hj, rfl, HK, HB, HG⟩ := hrel
    have HR := Lib.hid (U2.out.later HB.out)
    by_cases hlt : j < 11
    · obtain ⟨tx, htx⟩ : ∃ tx : ByteArray, tx.data.toList = tB ps j := ⟨⟨(tB ps j).toArray⟩, by simp⟩
      have hcj : wr.cell? ⟨g, j, none⟩ = some (.string tx) := by
        rw [HB.out.cell hg2, HC.out j (tB ps j) (by unfold tB; rw [List.getD_eq_getElem?_getD, List.getElem?_eq_getElem (by rw [HLN.out]; exact hlt)]; rfl), ← htx]
        rfl
      have haj : wr.cell? ⟨w2.heap.size, j, none⟩ = some (.int .i64 0) := by rw [HK.out.cell, bRow_at _ j hlt, upB_at]
      have hfj : wr.frozen? ⟨w2.heap.size, j, none⟩ = false := HK.out.frozen _
      have hltI : (j : Int) < 11 := by omega
      have CN : Hid (∀ W, Calls Tryz.prog 21 #[.string tx, .int .i64 6] W fun e w' => e = .returned (.tuple #[.int .i64 (valB ps j), .bool (numS (tB ps j) 6).isSome]) ∧ W = w') := fun W => by
        have hz : tx.data.toList.length = tx.size := by simp
        have h1 := HTZ.out j
        rw [← htx, hz] at h1
        have := number_any tx 6 W (by omega) (by omega) (by omega)
        rw [htx] at this
        exact this
      have F0 := Lib.hid (HR.out.fin noB)
      clear htx
      rcases casesB ps j with ⟨hgd, hsm, hv0⟩ | ⟨hgd, hsm, hv0, hi⟩ | ⟨hnb, hsm⟩ | ⟨hnb, hsm, hv0, hi⟩
      · have HS : Hid (Bk (wr.setCell ⟨w2.heap.size, j, none⟩ (.int .i64 (valB ps j))) w2.heap.size 51 (bRow (upB ps (j + 1)))) := by
          show Bk _ _ _ _
          rw [← bRow_step ps j hlt]
          exact HK.out.set_ _ _
        have HG2 : Hid (∀ m, m < j + 1 → goodB ps m) := fun m hm => by
          by_cases e : m = j
          · rw [e]; exact hgd
          · exact HG.out m (by omega)
        obtain ⟨v, hv⟩ : ∃ v, valB ps j = v := ⟨_, rfl⟩
        rw [hsm, hv] at CN
        rw [hv] at hv0 HS
        clear hv hsm hgd
        go_wp2_with (go_at_call 21; refine (CN.out _).mono ?_; rintro e w' ⟨rfl, rfl⟩)
        go_roundw
        case rel => exact ⟨j + 1, by omega, by go_num, HS.out, HB.out.setCell (Nat.le_refl _) _, HG2.out⟩
        case measure => simp [intOf]; omega
      · have HS : Hid (Bk (wr.setCell ⟨w2.heap.size, j, none⟩ (.int .i64 (valB ps j))) w2.heap.size 51 (bRow (upB ps (j + 1)))) := by
          show Bk _ _ _ _
          rw [← bRow_step ps j hlt]
          exact HK.out.set_ _ _
        have HG2 : Hid (∀ m, m < j + 1 → goodB ps m) := fun m hm => by
          by_cases e : m = j
          · rw [e]; exact hgd
          · exact HG.out m (by omega)
        obtain ⟨v, hv⟩ : ∃ v, valB ps j = v := ⟨_, rfl⟩
        rw [hsm, hv] at CN
        rw [hv] at hv0 HS
        have hin : inB (j : Int) 2 9 = true := by unfold inB; simp; omega
        clear hv hsm hgd hi
        go_wp2_with (first
          | (go_at_call 21; refine (CN.out _).mono ?_; rintro e w' ⟨rfl, rfl⟩)
          | (go_at_call 22; refine (within_any _ _ _ _).mono ?_; rintro e w' ⟨rfl, rfl⟩))
        go_roundw
        case rel => exact ⟨j + 1, by omega, by go_num, HS.out, HB.out.setCell (Nat.le_refl _) _, HG2.out⟩
        case measure => simp [intOf]; omega
      · have HX := parB_bad j hlt hnb
        obtain ⟨rfl, rfl⟩ : noB = o ∧ 7 = r := by have := HX.symm.trans HV.out; exact Prod.mk.injEq .. ▸ this
        obtain ⟨v, hv⟩ : ∃ v, valB ps j = v := ⟨_, rfl⟩
        rw [hsm, hv] at CN
        clear hv hsm hnb HX HV
        go_wp2_with (first
          | (with_reducible refine wpList_store_row rfl 24 (.tmp 2) (.tmp 40) rfl w.heap.size noB rfl rfl 24 noB HR.out.g0.heap blkInfN noB_size noB_one ?_)
          | (go_at_call 21; refine (CN.out _).mono ?_; rintro e w' ⟨rfl, rfl⟩)
          | (go_at_call 22; refine (within_any _ _ _ _).mono ?_; rintro e w' ⟨rfl, rfl⟩))
        refine bodyPost_ret (v := .tuple #[.agg noB, .int .i64 7]) ?_ rfl ⟨rfl, F0.out.2⟩
        exact results_cell_tmp (fn := Tryz.f7) rfl _ _ w.heap.size 24 noB (0, 0) _ rfl F0.out.1 Tryz.underlying24 rfl blkInfN
      · have HX := parB_bad j hlt hnb
        obtain ⟨rfl, rfl⟩ : noB = o ∧ 7 = r := by have := HX.symm.trans HV.out; exact Prod.mk.injEq .. ▸ this
        obtain ⟨v, hv⟩ : ∃ v, valB ps j = v := ⟨_, rfl⟩
        rw [hsm, hv] at CN
        rw [hv] at hv0
        have hin : inB (j : Int) 2 9 = false := by unfold inB; simp; omega
        clear hv hsm hnb HX HV hi
        go_wp2_with (first
          | (with_reducible refine wpList_store_row rfl 24 (.tmp 2) (.tmp 40) rfl w.heap.size noB rfl rfl 24 noB HR.out.g0.heap blkInfN noB_size noB_one ?_)
          | (go_at_call 21; refine (CN.out _).mono ?_; rintro e w' ⟨rfl, rfl⟩)
          | (go_at_call 22; refine (within_any _ _ _ _).mono ?_; rintro e w' ⟨rfl, rfl⟩))
        refine bodyPost_ret (v := .tuple #[.agg noB, .int .i64 7]) ?_ rfl ⟨rfl, F0.out.2⟩
        exact results_cell_tmp (fn := Tryz.f7) rfl _ _ w.heap.size 24 noB (0, 0) _ rfl F0.out.1 Tryz.underlying24 rfl blkInfN
    · obtain rfl : j = 11 := by omega
      rw [bRow_all] at HK
      have HX := parB_good HLN.out HG.out
      obtain ⟨f, hf⟩ : ∃ f, valB ps = f := ⟨_, rfl⟩
      rw [hf] at HK HX
      clear hf HG HC C20 HTZ HLN
      have n0 : wr.cell? ⟨w2.heap.size, 0, none⟩ = some (.int .i64 (f 0)) := by rw [HK.out.cell]; rfl
      have n1 : wr.cell? ⟨w2.heap.size, 1, none⟩ = some (.int .i64 (f 1)) := by rw [HK.out.cell]; rfl
      have n10 : wr.cell? ⟨w2.heap.size, 10, none⟩ = some (.int .i64 (f 10)) := by rw [HK.out.cell]; rfl
      go_wp2_with fail
      obtain ⟨w5, hw5⟩ : ∃ W, wr.alloc (.cells #[.int .i64 (f 0), .int .i64 (f 1), .int .i64 0, .int .i64 0, .int .i64 0, .int .i64 0, .int .i64 0, .int .i64 0, .int .i64 0, .int .i64 0, .int .i64 (f 10)] 24) = W := ⟨_, rfl⟩
      have HD5 : Hid (Bk w5 wr.heap.size 24 #[.int .i64 (f 0), .int .i64 (f 1), .int .i64 0, .int .i64 0, .int .i64 0, .int .i64 0, .int .i64 0, .int .i64 0, .int .i64 0, .int .i64 0, .int .i64 (f 10)]) := by show Bk _ _ _ _; rw [← hw5]; exact Bk.new _ _ _
      have HB5 : Hid (Below wr.heap.size wr w5) := by show Below _ _ _; rw [← hw5]; exact (Below.refl _ _).alloc (Nat.le_refl _) _
      have HK5 : Hid (Bk w5 w2.heap.size 51 (bRow f)) := HK.out.below HB5.out HK.out.lt
      rw [hw5]
      clear hw5 n0 n1 n10
      have hlen8 : Hid (([.int .i64 (f 2), .int .i64 (f 3), .int .i64 (f 4), .int .i64 (f 5), .int .i64 (f 6), .int .i64 (f 7), .int .i64 (f 8), .int .i64 (f 9)] : List Value).length = Nat.min 8 8) := rfl
      have hone : Hid (∀ v ∈ ([.int .i64 (f 2), .int .i64 (f 3), .int .i64 (f 4), .int .i64 (f 5), .int .i64 (f 6), .int .i64 (f 7), .int .i64 (f 8), .int .i64 (f 9)] : List Value), v.oneCell' = true) := by show ∀ v ∈ _, _; simp [Value.oneCell']
      have hsrc : Hid (∀ (j : Nat) (v : Value), ([.int .i64 (f 2), .int .i64 (f 3), .int .i64 (f 4), .int .i64 (f 5), .int .i64 (f 6), .int .i64 (f 7), .int .i64 (f 8), .int .i64 (f 9)] : List Value)[j]? = some v → w5.drew.cell? ((⟨w2.heap.size, 2, none⟩ : Addr).add j) = some v) := by
        intro j v hv
        have hj : j < 8 := (List.getElem?_eq_some_iff.1 hv).1
        have hadd : (⟨w2.heap.size, 2, none⟩ : Addr).add j = ⟨w2.heap.size, 2 + j, none⟩ := by unfold Addr.add; split <;> simp_all
        rw [hadd, HK5.out.drew.cell]
        rcases (show j = 0 ∨ j = 1 ∨ j = 2 ∨ j = 3 ∨ j = 4 ∨ j = 5 ∨ j = 6 ∨ j = 7 by omega) with rfl | rfl | rfl | rfl | rfl | rfl | rfl | rfl <;> exact hv
      go_region_law ((simp only [List.getElem_toArray, List.getElem_cons_succ, List.getElem_cons_zero, Act.put, List.setIfInBounds_toArray, List.set_cons_zero, List.set_cons_succ]); (refine step_if (by rfl) ?_); (refine wp_copy_splice rfl (.tmp 52) (.tmp 53) 40 40 rfl 3 intsUnder intSize (some ⟨wr.heap.size, 2, none⟩) (some ⟨w2.heap.size, 2, none⟩) 8 8 8 9 (by rfl) (by rfl) wr.heap.size 2 [.int .i64 (f 0), .int .i64 (f 1), .int .i64 0, .int .i64 0, .int .i64 0, .int .i64 0, .int .i64 0, .int .i64 0, .int .i64 0, .int .i64 0, .int .i64 (f 10)] 24 HD5.out.drew.heap [.int .i64 (f 2), .int .i64 (f 3), .int .i64 (f 4), .int .i64 (f 5), .int .i64 (f 6), .int .i64 (f 7), .int .i64 (f 8), .int .i64 (f 9)] hlen8.out (fun _ => ⟨rfl, _, rfl, hsrc.out⟩) (by simp) hone.out wr.heap.size wr HB5.out.drew (Nat.le_refl _) ?_); intro w6 hg6 hb6)
      have HK6 : Hid (Bk w6 wr.heap.size 24 (bRow f)) := hg6.out
      have HR6 := Lib.hid (HR.out.later hb6)
      clear hg6 hb6 hsrc hone hlen8 HD5 HB5 HK5 HK HB
      obtain ⟨E, hE⟩ : ∃ E, errB f = E := ⟨_, rfl⟩
      have CE : Hid (∀ W, Calls Tryz.prog 9 #[.agg (bRow f)] W fun e w' => e = .returned (.int .i64 E) ∧ Below W.heap.size W w') := fun W => by
        have := refBlockErr_any (f 0) (f 1) (f 2) (f 3) (f 4) (f 5) (f 6) (f 7) (f 8) (f 9) (f 10) W
        rw [← hE]
        exact this
      rw [hE] at HX
      clear hE
      go_wp2_with (with_reducible refine wpList_load_row rfl 24 (.tmp 9) rfl wr.heap.size rfl 24 (bRow f) (0, 0) _ HK6.out.heap Tryz.underlying24 rfl (blkInfR _) ?_)
      refine (CE.out _).mono ?_
      rintro e w8 ⟨rfl, hb8⟩
      have HR8 := Lib.hid (HR6.out.later hb8)
      have HK8 : Hid (Bk w8 wr.heap.size 24 (bRow f)) := HK6.out.below hb8 HK6.out.lt
      clear hb8 HK6 HR6 CE
      by_cases hE0 : E = 0
      · subst hE0
        rw [if_pos rfl] at HX
        obtain ⟨rfl, rfl⟩ : bRow f = o ∧ 0 = r := by have := HX.symm.trans HV.out; exact Prod.mk.injEq .. ▸ this
        clear HX HV
        have F0 := Lib.hid (HR8.out.fin (bRow f))
        go_wp2_with (first
          | (with_reducible refine wpList_store_row rfl 24 (.tmp 2) (.tmp 61) rfl w.heap.size (bRow f) rfl rfl 24 noB HR8.out.g0.heap (blkInfR _) (bRow_size _) (bRow_one _) ?_)
          | (with_reducible refine wpList_load_row rfl 24 (.tmp 9) rfl wr.heap.size rfl 24 (bRow f) (0, 0) _ HK8.out.heap Tryz.underlying24 rfl (blkInfR _) ?_))
        refine bodyPost_ret (v := .tuple #[.agg (bRow f), .int .i64 0]) ?_ rfl ⟨rfl, F0.out.2⟩
        exact results_cell_tmp (fn := Tryz.f7) rfl _ _ w.heap.size 24 (bRow f) (0, 0) _ rfl F0.out.1 Tryz.underlying24 rfl (blkInfR _)
      · rw [if_neg hE0] at HX
        obtain ⟨rfl, rfl⟩ : noB = o ∧ E = r := by have := HX.symm.trans HV.out; exact Prod.mk.injEq .. ▸ this
        have hEn : (E != 0) = true := bne_iff_ne.2 hE0
        clear HX HV hE0
        have F0 := Lib.hid (HR8.out.fin noB)
        go_wp2_with (first
          | (with_reducible refine wpList_store_row rfl 24 (.tmp 2) (.tmp 59) rfl w.heap.size noB rfl rfl 24 noB HR8.out.g0.heap blkInfN noB_size noB_one ?_))
        refine bodyPost_ret (v := .tuple #[.agg noB, .int .i64 E]) ?_ rfl ⟨rfl, F0.out.2⟩
        exact results_cell_tmp (fn := Tryz.f7) rfl _ _ w.heap.size 24 noB (0, 0) _ rfl F0.out.1 Tryz.underlying24 rfl blkInfN

/-- The reference's ParseBlock of any string. -/
theorem refPB_any (s : ByteArray) (w : World) (hs : s.size ≤ 1000) :
    Calls Tryz.prog 7 #[.string s] w fun e w' => e = .returned (.tuple #[.agg (parB (pcs 32 s.data.toList)).1, .int .i64 (parB (pcs 32 s.data.toList)).2]) ∧ Below w.heap.size w w' := by
  by_cases h : (pcs 32 s.data.toList).length = 11
  · exact refPB_2 s _ w (by omega) rfl h _ _ rfl
  · rw [parB_len h]
    exact refPB_1 s _ w (by omega) rfl h

end Go.Proofs.YtkemoffagdilgaaGreatDoor
