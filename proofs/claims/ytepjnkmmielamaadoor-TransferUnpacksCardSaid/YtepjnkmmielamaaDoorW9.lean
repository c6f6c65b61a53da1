import Derived.Test.YtepjnkmmielamaaDoorW8
import Derived.Test.YtepjnkmmielamaaDoorGA
namespace Go.Proofs.YtepjnkmmielamaaDoor
open Go.RowKit

theorem foldedOf_zero (arr : Array Value) (xs : List Int) (w : World) (hw : Laid w) (h : Is8 arr xs) (hb : Bnd xs 32767) :
    Calls Tryd.prog 101 #[.agg arr, .int .i64 0] w fun e w' => ∃ us, e = .returned (.agg us) ∧ Is8 us (foldeds xs 0) ∧ Below w.heap.size w w' :=
  foldedOf_any arr xs 0 w hw h hb (by omega)
theorem bitsFor_zero (arr : Array Value) (us : List Int) (w : World) (h : Is8 arr us) (hs : Small us) :
    Calls Tryd.prog 100 #[.agg arr, .int .i64 0] w fun e w' => e = .returned (.int .i64 (bitsF us 0)) ∧ Below w.heap.size w w' :=
  bitsFor_any arr us 0 w h hs (by omega)

set_option maxRecDepth 100000 in
set_option maxHeartbeats 1000000 in
theorem shortest_any (arr : Array Value) (xs : List Int) (w : World) (hw : Laid w) (h : Is8 arr xs) (hb : Bnd xs 32767) :
    Calls Tryd.prog 102 #[.agg arr] w fun e w' => e = .returned (.tuple #[.int .i64 ((shortS xs).1 : Nat), .int .i64 ((shortS xs).2.1 : Nat)]) ∧ Below w.heap.size w w' := by
  have HW := Lib.hid hw; clear hw
  have H := Lib.hid h; clear h
  have HB := Lib.hid hb; clear hb
  have w1 : Hid (Below w.heap.size w (w.alloc (.cells arr 35))) := (Below.refl _ _).alloc (Nat.le_refl _) _
  have l1 : Hid (Laid (w.alloc (.cells arr 35))) := HW.out.later w1.out
  have HS := Lib.hid (foldeds_small xs 0 HB.out)
  go_enter Tryd.func102, Tryd.ntmps102
  go_wp2_with (first
    | (with_reducible refine wpList_load_row rfl 35 (.tmp 1) rfl w.heap.size rfl 35 arr (0, 0) _ (heap_alloc_new w _) arrUnder rfl H.out.info ?_)
    | (go_at_call 101; refine (foldedOf_zero arr xs _ l1.out H.out HB.out).mono ?_; rintro e w2 ⟨us, rfl, hus, hb2⟩; have HUS := Lib.hid hus; clear hus; have HB2 := Lib.hid hb2; clear hb2)
    | (go_at_call 100; refine (bitsFor_zero us _ _ HUS.out HS.out).mono ?_; rintro e w3 ⟨rfl, hb3⟩; have HB3 := Lib.hid hb3; clear hb3))
  have hB3 : Hid (Below (w.heap.size + 1) (w.alloc (.cells arr 35)) w3) := (HB2.out.mono (by simp)).trans (HB3.out.mono (by have := HB2.out.size; simpa using this))
  have hx3 : Hid (Bk w3 w.heap.size 35 arr) := (Bk.new w _ _).below hB3.out (by omega)
  have hbw3 : Hid (Below w.heap.size w w3) := w1.out.trans (hB3.out.mono (by omega))
  have hsz3 : w.heap.size < w3.heap.size := hx3.out.lt
  clear HB2 HB3 hB3
  go_loopw [2, 3, 4, 12] (fun a b l i wr => ∃ p : Nat, p ≤ 3 ∧ i = .int .i64 p ∧ a = .int .i64 ((outerS xs (startS xs) p).1 : Nat) ∧ b = .int .i64 ((outerS xs (startS xs) p).2.1 : Nat) ∧ l = .int .i64 (outerS xs (startS xs) p).2.2 ∧ Hid (Bk wr w.heap.size 35 arr) ∧ Hid (Below w.heap.size w wr)) (fun _ _ _ i _ => 3 - (intOf i).toNat)
  case atStart => exact ⟨0, by omega, rfl, rfl, rfl, rfl, hx3, hbw3⟩
  case round =>
    obtain ⟨p, hp, rfl, rfl, rfl, rfl, hx, hbw⟩ := hrel
    by_cases hlt : p < 3
    · have hgood := (GoodS.start xs).outer p (by omega)
      obtain ⟨s, hs⟩ : ∃ s, outerS xs (startS xs) p = s := ⟨_, rfl⟩
      have hnext : Hid (outerS xs (startS xs) (p + 1) = innerS xs s p 18) := by show outerS xs (startS xs) (p + 1) = _; rw [← hs]; rfl
      rw [hs] at hgood ⊢
      clear hs
      have HG := Lib.hid hgood; clear hgood
      have lw : Hid (Laid wr) := HW.out.later hbw.out
      have hszr : w.heap.size < wr.heap.size := hx.out.lt
      have HSp := Lib.hid (foldeds_small xs p HB.out)
      go_wp2_with (first
        | (with_reducible refine wpList_load_row rfl 35 (.tmp 1) rfl w.heap.size rfl 35 arr (0, 0) _ hx.out.heap arrUnder rfl H.out.info ?_)
        | (go_at_call 101; refine (foldedOf_any arr xs p _ lw.out H.out HB.out hlt).mono ?_; rintro e w4 ⟨vs, rfl, hvs, hb4⟩; have HVS := Lib.hid hvs; clear hvs; have HB4 := Lib.hid hb4; clear hb4)
        | (with_reducible refine wpList_store_row rfl 35 (.tmp 6) (.tmp 17) rfl w4.heap.size vs rfl rfl 35 zero8 (heap_alloc_new w4 _) HVS.out.info HVS.out.zsize HVS.out.one ?_))
      obtain ⟨w5, hw5⟩ : ∃ w5, World.setRow (w4.alloc (.cells #[.int .i64 0, .int .i64 0, .int .i64 0, .int .i64 0, .int .i64 0, .int .i64 0, .int .i64 0, .int .i64 0] 35)) w4.heap.size vs = w5 := ⟨_, rfl⟩
      have hF : Hid (Bk w5 w4.heap.size 35 vs) := by show Bk _ _ _ _; rw [← hw5]; exact setRow_heap _ _ _ _ _ _ (heap_alloc_new w4 _)
      have hb5 : Below w4.heap.size w4 w5 := by rw [← hw5]; exact below_setRow ((Below.refl _ _).alloc (Nat.le_refl _) _) (Nat.le_refl _) _
      have hb45 : Below wr.heap.size wr w5 := HB4.out.trans (hb5.mono HB4.out.size)
      have hx5 : Hid (Bk w5 w.heap.size 35 arr) := hx.out.below hb45 hszr
      have hbw5 : Hid (Below w.heap.size w w5) := hbw.out.trans (hb45.mono (by omega))
      have hlt5 : w.heap.size < w4.heap.size := Nat.lt_of_lt_of_le hszr HB4.out.size
      rw [hw5]
      clear hw5 HB4 hb5 hb45
      go_loopw [2, 3, 4, 18] (fun a b l i wr => ∃ k : Nat, k ≤ 18 ∧ i = .int .i64 k ∧ a = .int .i64 ((innerS xs s p k).1 : Nat) ∧ b = .int .i64 ((innerS xs s p k).2.1 : Nat) ∧ l = .int .i64 (innerS xs s p k).2.2 ∧ Hid (Bk wr w.heap.size 35 arr) ∧ Hid (Bk wr w4.heap.size 35 vs) ∧ Hid (Below w.heap.size w wr)) (fun _ _ _ i _ => 18 - (intOf i).toNat)
      case atStart => exact ⟨0, by omega, rfl, rfl, rfl, rfl, hx5, hF, hbw5⟩
      case round =>
        clear hx hbw lw hszr hx5 hF hbw5
        obtain ⟨k, hk, rfl, rfl, rfl, rfl, hx, hF, hbw⟩ := hrel
        by_cases hlk : k < 18
        · have hgood := HG.out.inner p hlt k (by omega)
          obtain ⟨t, ht⟩ : ∃ t, innerS xs s p k = t := ⟨_, rfl⟩
          have hnx : Hid (innerS xs s p (k + 1) = stepS xs t p k) := by show innerS xs s p (k + 1) = _; rw [← ht]; rfl
          rw [ht] at hgood ⊢
          clear ht
          have hbd := bitsF_bd xs p k HB.out hlk
          obtain ⟨n, hn⟩ : ∃ n, bitsF (foldeds xs p) k = n := ⟨_, rfl⟩
          rw [hn] at hbd
          have C : Hid (∀ W, Calls Tryd.prog 100 #[.agg vs, .int .i64 k] W fun e w' => e = .returned (.int .i64 n) ∧ Below W.heap.size W w') := fun W => by rw [← hn]; exact bitsFor_any vs _ k W HVS.out HSp.out (by omega)
          have HN := Lib.hid hn
          clear hn
          have hFl := hF.out.lt
          have hxl := hx.out.lt
          by_cases hless : n < t.2.2
          · go_wp2_with (first
              | (with_reducible refine wpList_load_row rfl 35 (.tmp 6) rfl w4.heap.size rfl 35 vs (0, 0) _ hF.out.heap arrUnder rfl HVS.out.info ?_)
              | (go_at_call 100; refine (C.out _).mono ?_; rintro e w6 ⟨rfl, hb6⟩; have HB6 := Lib.hid hb6; clear hb6))
            go_roundw
            case rel =>
              have e : stepS xs t p k = (p, k, n) := by unfold stepS; rw [HN.out, if_pos hless]
              exact ⟨k + 1, by omega, by go_num, by rw [hnx.out, e], by rw [hnx.out, e], by rw [hnx.out, e], hx.out.below HB6.out hxl, hF.out.below HB6.out hFl, hbw.out.trans (HB6.out.mono (by omega))⟩
            case measure => simp [intOf]; omega
          · go_wp2_with (first
              | (with_reducible refine wpList_load_row rfl 35 (.tmp 6) rfl w4.heap.size rfl 35 vs (0, 0) _ hF.out.heap arrUnder rfl HVS.out.info ?_)
              | (go_at_call 100; refine (C.out _).mono ?_; rintro e w6 ⟨rfl, hb6⟩; have HB6 := Lib.hid hb6; clear hb6))
            go_roundw
            case rel =>
              have e : stepS xs t p k = t := by unfold stepS; rw [HN.out, if_neg (by omega)]
              exact ⟨k + 1, by omega, by go_num, by rw [hnx.out, e], by rw [hnx.out, e], by rw [hnx.out, e], hx.out.below HB6.out hxl, hF.out.below HB6.out hFl, hbw.out.trans (HB6.out.mono (by omega))⟩
            case measure => simp [intOf]; omega
        · obtain rfl : k = 18 := by omega
          go_wp2
          go_roundw
          case rel => exact ⟨p + 1, by omega, by go_num, by rw [hnext.out], by rw [hnext.out], by rw [hnext.out], hx, hbw⟩
          case measure => simp [intOf]; omega
    · obtain rfl : p = 3 := by omega
      go_wp2
      go_ret2
      exact ⟨rfl, hbw.out⟩

end Go.Proofs.YtepjnkmmielamaaDoor
